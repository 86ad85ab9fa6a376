/- A number in four bytes: written, read. -/
import Derived.Test.YtfmgbmpdifjliaaFrameMath
import Derived.Test.YtfmgbmpdifjliaaPadBase
import Derived.Test.YtfmgbmpdifjliaaCrc
import Derived.Lib.EndianBits
namespace Go.Proofs.Ytfmgbmpdifjliaa
open Go.RowKit
set_option linter.unusedVariables false

theorem over_four {z : List Nat} {o v : Nat} (h : o + 4 ≤ z.length) : over z o (FrM.four v) = (((z.set o (v / 16777216 % 256)).set (o + 1) (v / 65536 % 256)).set (o + 2) (v / 256 % 256)).set (o + 3) (v % 256) := by
  refine ext_getD (by rw [over_length (by rw [FrM.four_length]; exact h)]; simp) fun i hi => ?_
  rw [over_length (by rw [FrM.four_length]; exact h)] at hi
  rw [over_at (by rw [FrM.four_length]; exact h), FrM.four_length, getD_set _ _ _ _ (by simp; omega), getD_set _ _ _ _ (by simp; omega), getD_set _ _ _ _ (by simp; omega), getD_set _ _ _ _ (by omega)]
  by_cases e : o ≤ i ∧ i < o + 4
  · rw [if_pos e]
    rcases (by omega : i = o ∨ i = o + 1 ∨ i = o + 2 ∨ i = o + 3) with rfl | rfl | rfl | rfl
    · rw [if_neg (by omega), if_neg (by omega), if_neg (by omega), if_pos rfl, Nat.sub_self]; rfl
    · rw [if_neg (by omega), if_neg (by omega), if_pos rfl, Nat.add_sub_cancel_left]; rfl
    · rw [if_neg (by omega), if_pos rfl, Nat.add_sub_cancel_left]; rfl
    · rw [if_pos rfl, Nat.add_sub_cancel_left]; rfl
  · rw [if_neg e, if_neg (by omega), if_neg (by omega), if_neg (by omega), if_neg (by omega)]

theorem four_at (v t : Nat) (h : t < 4) : (v : Int) / 2 ^ (24 - 8 * t) % 256 = ((FrM.four v).getD t 0 : Nat) := by
  rcases (by omega : t = 0 ∨ t = 1 ∨ t = 2 ∨ t = 3) with rfl | rfl | rfl | rfl
  · show (v : Int) / 16777216 % 256 = ((v / 16777216 % 256 : Nat) : Int); omega
  · show (v : Int) / 65536 % 256 = ((v / 65536 % 256 : Nat) : Int); omega
  · show (v : Int) / 256 % 256 = ((v / 256 % 256 : Nat) : Int); omega
  · show (v : Int) / 1 % 256 = ((v % 256 : Nat) : Int); omega
/-- The first t of four. -/
def upto (z : List Nat) (o v : Nat) : Nat → List Nat
  | 0 => z
  | t + 1 => (upto z o v t).set (o + t) ((FrM.four v).getD t 0)
theorem upto_length (z : List Nat) (o v t : Nat) : (upto z o v t).length = z.length := by
  induction t with
  | zero => rfl
  | succ t ih => rw [upto, List.length_set, ih]
set_option maxHeartbeats 800000 in
theorem setWord_any (q o n cap v : Nat) (z : List Nat) (w : World) (hb : Blk w q z) (hz : o + 4 ≤ z.length) (hn : 4 ≤ n) (hl : n ≤ 1000) (hv : v < 4294967296) :
    Calls Try.prog 57 #[.slice (some ⟨q, o, none⟩) n cap, .int .u32 v] w fun e w' => e = .returned (.tuple #[]) ∧ Blk w' q (over z o (FrM.four v)) ∧ Up (One q) w w' := by
  have HB := hid hb
  have HE : Hid (over z o (FrM.four v) = upto z o v 4) := over_four hz
  rw [HE.out]
  have HZ := hid hz
  have i4 : (4 : Int) ≤ (n : Int) := by omega
  clear hb hz hn
  go_enter Try.func57, Try.ntmps57
  go_wp2_with fail
  go_loopw [5] (fun s wr => ∃ t : Nat, t ≤ 4 ∧ s = .int .i64 (t : Nat) ∧ Blk wr q (upto z o v t) ∧ Up (One q) w wr) (fun s _ => 4 - (intOf s).toNat)
  case atStart => exact ⟨0, by omega, rfl, HB.out, Up.refl _ _⟩
  case round =>
    obtain ⟨t, ht, rfl, hk, hu⟩ := hrel
    have HK := hid hk
    have HU := hid hu
    clear hk hu
    have ht' := ht
    by_cases hlt : t < 4
    · have hc := HK.out.cell (o + t) (by rw [upto_length]; have := HZ.out; omega)
      have hf := HK.out.froz (o + t)
      have j1 : (0 : Int) ≤ (t : Int) := by omega
      have j2 : (t : Int) < 4 := by omega
      have j3 : (t : Int) < (n : Int) := by omega
      generalize (upto z o v t).getD (o + t) 0 = y at hc
      go_wp2_with fail
      go_round
      case rel =>
        rw [four_at v t hlt]
        exact ⟨t + 1, hlt, by go_num, HK.out.set (o + t) _ (small_getD (FrM.four_small v) t), HU.out.setCell (p := ⟨q, o + t, none⟩) (.inr rfl) _⟩
      case measure => simp [intOf]; omega
    · obtain rfl : t = 4 := by omega
      go_wp2
      go_end0
      exact ⟨rfl, HK.out, HU.out⟩

theorem u32_join {x y : Int} (h0 : 0 ≤ x) (h1 : x < 16777216) (h2 : 0 ≤ y) (h3 : y < 256) : bits .or .u32 (x * 256) y = x * 256 + y :=
  bits_join .u32 32 (by decide) wraps_u32 8 (x * 256) y (by omega) (by omega) (by omega) h2 (by omega) (by omega)
/-- The number that the first t bytes are. -/
def wrd (z : List Nat) (o : Nat) : Nat → Nat
  | 0 => 0
  | t + 1 => wrd z o t * 256 + z.getD (o + t) 0
theorem wrd_four (z : List Nat) (o : Nat) : wrd z o 4 = FrM.word z o := by
  simp only [wrd, FrM.word, Nat.add_zero]
  omega
theorem wrd_lt {z : List Nat} (h : ∀ i, z.getD i 0 < 256) (o : Nat) : wrd z o 1 < 256 ∧ wrd z o 2 < 65536 ∧ wrd z o 3 < 16777216 := by
  have h0 := h o; have h1 := h (o + 1); have h2 := h (o + 2)
  simp only [wrd, Nat.add_zero]
  omega
set_option maxHeartbeats 800000 in
theorem word_any (a : Option Addr) (n cap : Nat) (z : List Nat) (w : World) (h : SlN w a n z) (hn : 4 ≤ n) (hc : n ≤ cap) :
    Calls Try.prog 61 #[.slice a n cap] w fun e w' => e = .returned (.int .u32 (FrM.word z 0 : Nat)) ∧ w = w' := by
  obtain ⟨b, o, rfl, hb, hr⟩ : ∃ b o, a = some ⟨b, o, none⟩ ∧ b < w.heap.size ∧ Row w b o z := by
    rcases h.row with e | h
    · omega
    · exact h
  have HL : Hid (z.length = n) := h.len
  have HR := hid hr
  have HW := hid (wrd_lt (z := z) hr.small 0)
  have hs := run_upto (some ⟨b, o, none⟩) n cap 4 (by omega) w
  have HX : Hid (FrM.word z 0 = wrd z 0 4) := (wrd_four z 0).symm
  rw [HX.out]
  have i4 : (4 : Int) ≤ (n : Int) := by omega
  have i5 : (n : Int) ≤ (cap : Int) := by omega
  have hn4 := hid hn
  clear h hr hb hn hc
  go_enter Try.func61, Try.ntmps61
  go_wp2
  go_loop [3, 9] (fun s i => ∃ t x : Nat, t ≤ 4 ∧ i = .int .i64 (t : Nat) ∧ s = .int .u32 (x : Nat) ∧ Hid (wrd z 0 t = x)) (fun _ i => 4 - (intOf i).toNat)
  case atStart => exact ⟨0, 0, by omega, rfl, rfl, rfl⟩
  case round =>
    obtain ⟨t, x, ht, rfl, rfl, HY⟩ := hrel
    by_cases hlt : t < 4
    · have hcell := HR.out.cells t (by rw [HL.out]; have := hn4.out; omega)
      have c8 := HR.out.small t
      have HN : Hid (wrd z 0 (t + 1) = x * 256 + z.getD t 0) := by
        show wrd z 0 t * 256 + z.getD (0 + t) 0 = _
        rw [HY.out, Nat.zero_add]
      generalize z.getD t 0 = c at hcell c8 HN
      have x8 : x < 16777216 := by
        rw [← HY.out]
        have := HW.out
        rcases (by omega : t = 0 ∨ t = 1 ∨ t = 2 ∨ t = 3) with rfl | rfl | rfl | rfl
        · show 0 < _; omega
        · omega
        · omega
        · omega
      have j1 : (0 : Int) ≤ (t : Int) := by omega
      have j2 : (t : Int) < 4 := by omega
      have hj := u32_join (x := x) (y := c) (by omega) (by omega) (by omega) (by omega)
      go_wp2
      go_round
      case rel =>
        exact ⟨t + 1, x * 256 + c, hlt, by go_num, by first | rfl | go_num, HN.out⟩
      case measure => simp [intOf]; omega
    · obtain rfl : t = 4 := by omega
      go_wp2
      go_ret
      exact ⟨ret_u32 (by rw [HY.out]), rfl⟩
end Go.Proofs.Ytfmgbmpdifjliaa
