/- 'Part', 'Full', 'Cut'. -/
import Derived.Test.YtcigmbjipnchaaaPadBase
namespace Go.Proofs.Ytcigmbjipnchaaa
open Go.RowKit
set_option linter.unusedVariables false

theorem outside_yes (x most : Int) (w : World) (h : x < 0 ∨ most < x) :
    Calls Try.prog 20 #[.int .i64 x, .int .i64 most] w fun e w' => e = .returned (.bool true) ∧ w = w' := by
  by_cases h0 : x < 0
  · clear h
    go_enter Try.func20, Try.ntmps20
    go_wp2
    go_ret
    exact ⟨rfl, rfl⟩
  · have h1 : most < x := by omega
    clear h
    go_enter Try.func20, Try.ntmps20
    go_wp2
    go_ret
    exact ⟨rfl, rfl⟩
theorem outside_no (x most : Int) (w : World) (h0 : ¬ x < 0) (h1 : ¬ most < x) :
    Calls Try.prog 20 #[.int .i64 x, .int .i64 most] w fun e w' => e = .returned (.bool false) ∧ w = w' := by
  go_enter Try.func20, Try.ntmps20
  go_wp2
  go_ret
  exact ⟨rfl, rfl⟩

/-- What may not be told. -/
theorem part_bad (a : Option Addr) (n cap : Nat) (x m : Int) (w : World) (hn : n ≤ 9223372036854775807) (h : x < 0 ∨ (n : Int) < x ∨ m < 0 ∨ (n : Int) - x < m) :
    Calls Try.prog 10 #[.slice a n cap, .int .i64 x, .int .i64 m] w fun e w' => e = .returned (.tuple #[.slice none 0 0, .bool false]) ∧ w = w' := by
  by_cases h1 : x < 0 ∨ (n : Int) < x
  · have HY := hid (outside_yes x n w h1)
    clear h h1
    go_enter Try.func10, Try.ntmps10
    go_wp2_with ((go_at_call 20; (with_reducible refine HY.out.mono ?_); rintro e w1 ⟨rfl, rfl⟩))
    go_ret2
    exact ⟨rfl, rfl⟩
  · obtain ⟨k, rfl⟩ : ∃ k : Nat, x = k := ⟨x.toNat, by omega⟩
    have hk : k ≤ n := by omega
    have HN := hid (outside_no (k : Int) n w (by omega) (by omega))
    have HY := hid (outside_yes m ((n : Int) - (k : Int)) w (by omega))
    have i1 : (k : Int) ≤ (n : Int) := by omega
    clear h h1
    go_enter Try.func10, Try.ntmps10
    go_wp2_with (first
      | (go_at_call 20; (with_reducible refine HN.out.mono ?_); rintro e w1 ⟨rfl, rfl⟩)
      | (go_at_call 20; (with_reducible refine HY.out.mono ?_); rintro e w1 ⟨rfl, rfl⟩))
    go_ret2
    exact ⟨rfl, rfl⟩
/-- A part that is there. -/
theorem part_good (a : Option Addr) (n cap k m : Nat) (z : List Nat) (w : World) (h : SlN w a n z) (hc : n ≤ cap) (ha : a = none → n = 0) (hk : k + m ≤ n) (hm : m ≤ 1000) :
    Calls Try.prog 10 #[.slice a n cap, .int .i64 k, .int .i64 m] w fun e w' => ∃ a' c, e = .returned (.tuple #[.slice a' m c, .bool true]) ∧ Got w w' a' m c ((z.drop k).take m) := by
  have hle := h.le
  have HN := hid (outside_no (k : Int) n w (by omega) (by omega))
  have HM := hid (outside_no (m : Int) ((n : Int) - (k : Int)) w (by omega) (by omega))
  have HS : Hid (∀ W, (Instr.slice 22 (.slice a n cap) (some (.int .i64 (k : Int))) (some (.int .i64 ((k : Int) + (m : Int)))) none).run Try.prog W = .ok (.slice (atOff a k cap) m (cap - k)) W) := fun W => by
    have := run_part a n cap k (k + m) m rfl (by omega) W
    rwa [Int.natCast_add] at this
  have HC := hid (bclone_any (atOff a k cap) m (cap - k) ((z.drop k).take m) w (h.mid k m cap hk hc) (fun e => by
    unfold atOff at e
    split at e
    · omega
    · cases a with
      | none => have := ha rfl; omega
      | some x => cases e) hm)
  have i1 : (k : Int) ≤ (n : Int) := by omega
  have i2 : (k : Int) + (m : Int) ≤ (n : Int) := by omega
  have i3 : (n : Int) ≤ 9223372036854775807 := by omega
  obtain ⟨a2, A2⟩ : ∃ x, Hid (atOff a k cap = x) := ⟨_, rfl⟩
  obtain ⟨c2, C2⟩ : ∃ x, Hid (cap - k = x) := ⟨_, rfl⟩
  obtain ⟨z2, Z2⟩ : ∃ x, Hid ((z.drop k).take m = x) := ⟨_, rfl⟩
  rw [A2.out, C2.out] at HS HC
  rw [Z2.out] at HC ⊢
  clear h hc ha hk hm hle
  have hs := HS.out
  go_enter Try.func10, Try.ntmps10
  go_wp2_with (first
    | (go_at_call 20; (with_reducible refine HN.out.mono ?_); rintro e w1 ⟨rfl, rfl⟩)
    | (go_at_call 20; (with_reducible refine HM.out.mono ?_); rintro e w1 ⟨rfl, rfl⟩)
    | (go_at_call 16; (with_reducible refine HC.out.mono ?_); rintro e w1 ⟨a', c, rfl, k1⟩; have K1 := hid k1; clear k1))
  go_ret2
  exact ⟨a', c, rfl, K1.out⟩

/-! ### 'Full' -/
/-- The bytes z and noughts behind them, 64. -/
def ful (z : List Nat) : List Nat := over (zer 64) 0 z
theorem ful_length {z : List Nat} (h : z.length ≤ 64) : (ful z).length = 64 := by
  unfold ful
  rw [over_length (by rw [zer_length]; omega), zer_length]
theorem ful_is (z : List Nat) : ful z = z ++ zer (64 - z.length) := by
  unfold ful over zer
  simp only [List.take_zero, List.nil_append, Nat.zero_add, List.drop_replicate]
theorem ful_take {z : List Nat} (h : z.length ≤ 64) : (ful z).take z.length = z := by
  rw [ful_is, List.take_left']
  rfl
theorem run_copy_sl (w : World) (ty : TypeId) (g n dl dCap : Nat) (ad : Option Addr) (sCap : Nat) (y z : List Nat) (hg : Blk w g y) (hz : SlN w ad n z) (hnd : n ≤ dl) (hfit : n ≤ y.length) :
    ∃ w', (Builtin.copy_ #[22, 22] ty #[.slice (some ⟨g, 0, none⟩) dl dCap, .slice ad n sCap]).run Try.prog w = .ok (goInt n) w' ∧ Blk w' g (over y 0 z) ∧ Up (One g) w w' := by
  rcases hz.row with rfl | ⟨b, so, rfl, hb, r⟩
  · obtain rfl : z = [] := List.eq_nil_of_length_eq_zero hz.len
    exact ⟨w, run_copy_none (P := Try.prog) w _ _ ty 5 _ _ _ _ _ _ Try.underlying22 info_u8_size (Nat.zero_min _), by simpa [over] using hg, Up.refl _ _⟩
  · obtain ⟨w', h1, h2, h3, _⟩ := run_copy_bytes w ty g 0 n dl dCap b so sCap y z hg r hz.len hnd (by omega)
    exact ⟨w', h1, h2, h3⟩
theorem full_bad (a : Option Addr) (n cap : Nat) (w : World) (h : 64 < n) :
    Calls Try.prog 11 #[.slice a n cap] w fun e w' => e = .returned (.tuple #[.slice none 0 0, .bool false]) ∧ w = w' := by
  have i1 : (64 : Int) < (n : Int) := by omega
  go_enter Try.func11, Try.ntmps11
  go_wp2
  go_ret2
  exact ⟨rfl, rfl⟩
theorem full_good (a : Option Addr) (n cap : Nat) (z : List Nat) (w : World) (hz : SlN w a n z) (h : n ≤ 64) :
    Calls Try.prog 11 #[.slice a n cap] w fun e w' => e = .returned (.tuple #[.slice (some ⟨w.heap.size, 0, none⟩) 64 64, .bool true]) ∧ Blk w' w.heap.size (ful z) ∧ Up Nul w w' := by
  have i1 : ¬ (64 : Int) < (n : Int) := by omega
  have hmk : (Instr.makeSlice 22 (.int .i64 64) (.int .i64 64)).run Try.prog w = .ok (.slice (some ⟨w.heap.size, 0, none⟩) 64 64) (w.alloc (.cells (bys (zer 64)) 5)) := make_bytes w 64 (by omega)
  have UA := hid ((Up.refl Nul w).alloc (.cells (bys (zer 64)) 5))
  have HB := hid (Blk.new w (zer 64) (zer_small 64))
  have HZ := hid (hz.nxt UA.out)
  obtain ⟨w2, hcp, h1, h2⟩ := run_copy_sl _ 3 w.heap.size n 64 64 a cap (zer 64) z HB.out HZ.out h (by rw [zer_length]; exact h)
  have H1 := hid h1
  have H2 : Hid (Up Nul w w2) := ⟨h2.os.trans UA.out.os, h2.tape.trans UA.out.tape, h2.output.trans UA.out.output, Nat.le_trans UA.out.size h2.size, fun k hk hs => (h2.block k (Nat.lt_of_lt_of_le hk UA.out.size) (by unfold One; omega)).trans (UA.out.block k hk hs)⟩
  clear hz h1 h2
  go_enter Try.func11, Try.ntmps11
  go_wp2
  go_ret2
  exact ⟨rfl, H1.out, H2.out⟩

/-! ### 'Cut' -/
theorem cut_bad (a : Option Addr) (n cap : Nat) (w : World) (h : 64 < n) :
    Calls Try.prog 8 #[.slice a n cap] w fun e w' => e = .returned (.tuple #[.slice none 0 0, .bool false]) ∧ w = w' := by
  have HF := hid (full_bad a n cap w h)
  clear h
  go_enter Try.func8, Try.ntmps8
  go_wp2_with ((go_at_call 11; (with_reducible refine HF.out.mono ?_); rintro e w1 ⟨rfl, rfl⟩))
  go_ret2
  exact ⟨rfl, rfl⟩
end Go.Proofs.Ytcigmbjipnchaaa
