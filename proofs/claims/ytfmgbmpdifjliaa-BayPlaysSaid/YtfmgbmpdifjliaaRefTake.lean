/- The document's own Take. -/
import Derived.Test.YtfmgbmpdifjliaaRefFrame
import Derived.BigQuiet
import Derived.Deep.QuietTactic
namespace Go.Proofs.Ytfmgbmpdifjliaa
open Go.RowKit
set_option linter.unusedVariables false

/-- What the document's Take tells. -/
def RTook (z : List Nat) (w : World) (e : Ending) (w' : World) : Prop :=
  (FrM.tk z = some (FrM.idOf z, FrM.datOf z) ∧ e = .returned (.tuple #[.int .i64 (FrM.idOf z : Nat), .string (strOf (FrM.datOf z)), .bool true]) ∧ Up Nul w w') ∨
  (FrM.tk z = none ∧ e = .returned (.tuple #[.int .i64 0, .string ⟨#[]⟩, .bool false]) ∧ Up Nul w w')
theorem str_at {z : List Nat} (hz : ∀ x ∈ z, x < 256) (k : Nat) (h : k < (strOf z).size) : (strOf z)[k].toNat = z.getD k 0 := by
  have := nums_at (strOf z) k h
  rw [sum_nums hz] at this
  exact this.symm
theorem i64_join {x y : Int} (i : Nat) (h0 : 0 ≤ x) (h1 : x % 2 ^ i = 0) (h2 : x < 2 ^ 63) (h3 : 0 ≤ y) (h4 : y < 2 ^ i) (h5 : y < 2 ^ 63) : bits .or .i64 x y = x + y :=
  bits_join .i64 63 (by decide) (fun n k0 k1 => IntWalk.i64_in _ (by omega)) i x y h0 h1 h2 h3 h4 h5
theorem fstr_mid (s : ByteArray) (k l : Nat) (h : k ≤ l) (h2 : l ≤ s.size) (W : World) : (Instr.slice 9 (.string s) (some (.int .i64 (k : Int))) (some (.int .i64 (l : Int))) none).run Try.prog W = .ok (.string (s.extract k l)) W := by
  rw [run_slice_string (P := Try.prog) W 9 s .i64 .i64 k l Try.underlying9 (by omega) (by omega) (by omega)]
  simp
theorem rtake_len (z : List Nat) (w : World) (hz : ∀ x ∈ z, x < 256) (hn : ¬ z.length = 96) (hl : z.length ≤ 9223372036854775807) :
    Calls Try.prog 53 #[.string (strOf z)] w (RTook z w) := by
  have HT : Hid (RTook z w (.returned (.tuple #[.int .i64 0, .string ⟨#[]⟩, .bool false])) w) := .inr ⟨tk_len hn, rfl, Up.refl _ _⟩
  have hsz : (strOf z).size = z.length := strOf_size z
  generalize RTook z w = K at HT ⊢
  generalize strOf z = s at hsz ⊢
  have i1 : ¬ (s.size : Int) = 96 := by omega
  have i2 : ((s.size : Int) == 96) = false := by simp; omega
  have i3 : s.size ≤ 9223372036854775807 := by omega
  clear hsz hz hn hl
  go_enter Try.func53, Try.ntmps53
  go_wp2
  go_ret3
  exact HT.out
theorem rtake_more (z : List Nat) (w : World) (hz : ∀ x ∈ z, x < 256) (hn : z.length = 96) (hm : 64 < z.getD 1 0) :
    Calls Try.prog 53 #[.string (strOf z)] w (RTook z w) := by
  have HT : Hid (RTook z w (.returned (.tuple #[.int .i64 0, .string ⟨#[]⟩, .bool false])) w) := .inr ⟨tk_more hm, rfl, Up.refl _ _⟩
  have hsz : (strOf z).size = 96 := by rw [strOf_size, hn]
  have hat : ∀ (k : Nat) (h : k < (strOf z).size), (strOf z)[k].toNat = z.getD k 0 := fun k h => str_at hz k h
  generalize RTook z w = K at HT ⊢
  generalize strOf z = s at hsz hat ⊢
  have h1 := hat 1 (by omega)
  clear hat
  generalize z.getD 1 0 = m at h1 hm
  have i3 : (64 : Int) < (m : Int) := by omega
  clear hz hn hm
  go_enter Try.func53, Try.ntmps53
  go_wp2
  go_ret3
  exact HT.out
set_option maxRecDepth 100000 in
set_option maxHeartbeats 1600000 in
theorem rtake_at (z : List Nat) (w : World) (hz : ∀ x ∈ z, x < 256) (hn : z.length = 96) (hm : z.getD 1 0 ≤ 64) :
    Calls Try.prog 53 #[.string (strOf z)] w (RTook z w) := by
  have hsz : (strOf z).size = 96 := by rw [strOf_size, hn]
  have hat : ∀ (k : Nat) (h : k < (strOf z).size), (strOf z)[k].toNat = z.getD k 0 := fun k h => str_at hz k h
  have b4 := small_getD hz 4
  have b5 := small_getD hz 5
  have b6 := small_getD hz 6
  have b7 := small_getD hz 7
  have HID : Hid (FrM.idOf z = z.getD 4 0 * 16777216 + z.getD 5 0 * 65536 + z.getD 6 0 * 256 + z.getD 7 0) := rfl
  have HDL : Hid ((FrM.datOf z).length ≤ 64) := by show _ ≤ _; rw [FrM.dat_len hn hm]; exact hm
  have HI4 : Hid (FrM.idOf z < 4294967296) := FrM.word_lt (small_getD hz) 4
  have HF := hid fun W => refFrame_good (FrM.idOf z) (FrM.datOf z) W HI4.out (FrM.dat_small hz) HDL.out
  have hTK : FrM.tk z = if z = FrM.fr (FrM.idOf z) (FrM.datOf z) then some (FrM.idOf z, FrM.datOf z) else none := by
    unfold FrM.tk
    by_cases e : z = FrM.fr (FrM.idOf z) (FrM.datOf z)
    · rw [if_pos e, if_pos ⟨hn, hm, e⟩]
    · rw [if_neg e, if_neg fun k => e k.2.2]
  have HGOOD : Hid (z = FrM.fr (FrM.idOf z) (FrM.datOf z) → ∀ w', Up Nul w w' → RTook z w (.returned (.tuple #[.int .i64 (FrM.idOf z : Nat), .string (strOf (FrM.datOf z)), .bool true])) w') := fun e w' u => .inl ⟨by rw [hTK, if_pos e], rfl, u⟩
  have HBAD : Hid (¬ z = FrM.fr (FrM.idOf z) (FrM.datOf z) → ∀ w', Up Nul w w' → RTook z w (.returned (.tuple #[.int .i64 0, .string ⟨#[]⟩, .bool false])) w') := fun e w' u => .inr ⟨by rw [hTK, if_neg e], rfl, u⟩
  have HEQ : Hid (((strOf (FrM.fr (FrM.idOf z) (FrM.datOf z))).toList == (strOf z).toList) = decide (FrM.fr (FrM.idOf z) (FrM.datOf z) = z)) := str_beq (small_getD (FrM.fr_small HDL.out (FrM.dat_small hz))) (small_getD hz)
  have hsl : ∀ W, (Instr.slice 9 (.string (strOf z)) (some (.int .i64 12)) (some (.int .i64 ((12 : Int) + ((z.getD 1 0 : Nat) : Int)))) none).run Try.prog W = .ok (.string (strOf (FrM.datOf z))) W := fun W => by
    have := fstr_mid (strOf z) 12 (12 + z.getD 1 0) (by omega) (by omega) W
    rw [strOf_extract, Nat.add_sub_cancel_left, Int.natCast_add] at this
    exact this
  have i0 : ((z.getD 1 0 : Nat) : Int) ≤ 64 := by omega
  generalize RTook z w = K at HGOOD HBAD ⊢
  generalize strOf (FrM.fr (FrM.idOf z) (FrM.datOf z)) = s2 at HF HEQ
  generalize strOf z = s at hsz hat HEQ hsl ⊢
  have h1 := hat 1 (by omega)
  have h4 := hat 4 (by omega)
  have h5 := hat 5 (by omega)
  have h6 := hat 6 (by omega)
  have h7 := hat 7 (by omega)
  clear hat
  generalize z.getD 1 0 = m at h1 i0 hsl
  generalize z.getD 4 0 = x4 at h4 b4 HID
  generalize z.getD 5 0 = x5 at h5 b5 HID
  generalize z.getD 6 0 = x6 at h6 b6 HID
  generalize z.getD 7 0 = x7 at h7 b7 HID
  have o1 : bits .or .i64 ((x4 : Int) * 16777216) ((x5 : Int) * 65536) = (x4 : Int) * 16777216 + (x5 : Int) * 65536 := i64_join 24 (by omega) (by omega) (by omega) (by omega) (by omega) (by omega)
  have o2 : bits .or .i64 ((x4 : Int) * 16777216 + (x5 : Int) * 65536) ((x6 : Int) * 256) = (x4 : Int) * 16777216 + (x5 : Int) * 65536 + (x6 : Int) * 256 := i64_join 16 (by omega) (by omega) (by omega) (by omega) (by omega) (by omega)
  have o3 : bits .or .i64 ((x4 : Int) * 16777216 + (x5 : Int) * 65536 + (x6 : Int) * 256) (x7 : Int) = (FrM.idOf z : Int) := by
    rw [HID.out, i64_join 8 (by omega) (by omega) (by omega) (by omega) (by omega) (by omega)]
    omega
  generalize FrM.idOf z = id at HID HI4 HF HGOOD HBAD HEQ o3
  generalize FrM.datOf z = dat at HDL HF HGOOD HBAD HEQ hsl
  generalize strOf dat = s3 at HF HGOOD hsl
  clear hz hn hm hTK HID
  go_enter Try.func53, Try.ntmps53
  go_wp2_with fail
  go_quiet (fail)
  have U0 : Hid (Up Nul w (w.drewN nq)) := (Up.refl _ _).drewN nq
  generalize w.drewN nq = w1 at U0 ⊢
  go_wp2_with fail
  refine (HF.out w1).mono ?_
  rintro e w2 ⟨rfl, u2⟩
  have U2 := hid (U0.out.trans u2)
  clear u2
  by_cases e : z = FrM.fr id dat
  · have E := hid e
    have hq : (s2.toList == s.toList) = true := by rw [HEQ.out]; exact decide_eq_true e.symm
    clear e
    go_wp2
    go_ret3
    exact HGOOD.out E.out _ U2.out
  · have E := hid e
    have hq : (s2.toList == s.toList) = false := by rw [HEQ.out]; exact decide_eq_false fun h => e h.symm
    clear e
    go_wp2
    go_ret3
    exact HBAD.out E.out _ U2.out
/-- The document's Take of any bytes. -/
theorem rtake_any (z : List Nat) (w : World) (hz : ∀ x ∈ z, x < 256) (hl : z.length ≤ 9223372036854775807) :
    Calls Try.prog 53 #[.string (strOf z)] w (RTook z w) := by
  by_cases hn : z.length = 96
  · by_cases hm : z.getD 1 0 ≤ 64
    · exact rtake_at z w hz hn hm
    · exact rtake_more z w hz hn (by omega)
  · exact rtake_len z w hz hn hl
end Go.Proofs.Ytfmgbmpdifjliaa
