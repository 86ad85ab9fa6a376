/- 'Dot' over two rows of bytes. -/
import Derived.Test.YtebglmfdchfplaaGfRef
import Derived.Deep.RegionHeld3
import Derived.Deep.DrawnRows
namespace Go.Proofs.Ytebglmfdchfplaa
open Go.RowKit
set_option linter.unusedVariables false

/-- The first z.length cells of a row of bytes. -/
structure Row (w : World) (b o : Nat) (z : List Nat) : Prop where
  cells : ∀ i, i < z.length → w.cell? ⟨b, o + i, none⟩ = some (.int .u8 (z.getD i 0))
  small : ∀ i, z.getD i 0 < 256
theorem Row.of_out {w w' : World} {b o c : Nat} {z : List Nat} (h : Row w b o z) (u : Out c w w') (hn : b ≠ c) : Row w' b o z :=
  ⟨fun i hi => by rw [u.cell hn]; exact h.cells i hi, h.small⟩

theorem Kept.drew {b : Nat} {u w : World} (h : Kept b u w) : Kept b u w.drew := ⟨h.1.drew, h.2.drew⟩
def dotk (z1 z2 : List Nat) : Nat → Nat
  | 0 => 0
  | k + 1 => dotk z1 z2 k ^^^ GfM.mul (z1.getD k 0) (z2.getD k 0)
theorem dotk_lt (z1 z2 : List Nat) (k : Nat) : dotk z1 z2 k < 256 := by
  induction k with
  | zero => simp [dotk]
  | succ k ih => exact GfM.xor_lt ih (GfM.mul_lt _ _)
theorem dotk_comm (z1 z2 : List Nat) (k : Nat) : dotk z1 z2 k = dotk z2 z1 k := by
  induction k with
  | zero => rfl
  | succ k ih => unfold dotk; rw [ih, GfM.mul_comm]

theorem dotk_next {z1 z2 : List Nat} {k x1 x2 : Nat} (h1 : z1.getD k 0 = x1) (h2 : z2.getD k 0 = x2) : dotk z1 z2 (k + 1) = dotk z1 z2 k ^^^ GfM.mul x1 x2 := by
  rw [← h1, ← h2]; rfl

set_option maxRecDepth 100000 in
set_option maxHeartbeats 400000 in
attribute [local go_sem ↓] Go.wp_at_zero Go.wp_at_succ in
theorem dot_rows_gt (B b1 o1 c1 b2 o2 c2 : Nat) (z1 z2 : List Nat) (w : World) (hf : Fld B w) (r1 : Row w b1 o1 z1) (r2 : Row w b2 o2 z2) (n1 : b1 ≠ B) (n2 : b2 ≠ B)
    (l1 : z1.length ≤ 9223372036854775807) (l2 : z2.length ≤ 9223372036854775807) (hc : z2.length < z1.length) :
    Calls Try.prog 72 #[.pointer (some ⟨B, 0, none⟩), .slice (some ⟨b1, o1, none⟩) z1.length c1, .slice (some ⟨b2, o2, none⟩) z2.length c2] w
      fun e w' => e = .returned (.int .u8 (dotk z1 z2 z2.length)) ∧ Kept B w w' := by
  have R1 : Hid _ := r1
  have R2 : Hid _ := r2
  clear r1 r2
  have HK : Hid (Kept B w w) := Kept.refl hf
  clear hf
  go_enter Try.func72, Try.ntmps72
  go_wp2
  go_loopw [7, 14] (fun s i wr => ∃ k : Nat, k ≤ z2.length ∧ i = .int .i64 k ∧ s = .int .u8 (dotk z1 z2 k) ∧ Kept B w wr) (fun _ i _ => z2.length - (intOf i).toNat)
  case atStart => exact ⟨0, by omega, rfl, rfl, HK.out⟩
  case round =>
    obtain ⟨k, hk, rfl, rfl, hinv⟩ := hrel
    have hs := dotk_lt z1 z2 k
    by_cases hlt : k < z2.length
    · obtain ⟨x1, X1⟩ : ∃ x, Hid (z1.getD k 0 = x) := ⟨_, rfl⟩
      obtain ⟨x2, X2⟩ : ∃ x, Hid (z2.getD k 0 = x) := ⟨_, rfl⟩
      have g1 : x1 < 256 := by rw [← X1.out]; exact R1.out.small k
      have g2 : x2 < 256 := by rw [← X2.out]; exact R2.out.small k
      have hc1 : wr.cell? ⟨b1, o1 + k, none⟩ = some (.int .u8 x1) := by rw [← X1.out]; exact (hinv.1.cell n1).trans (R1.out.cells k (by omega))
      have hc2 : wr.cell? ⟨b2, o2 + k, none⟩ = some (.int .u8 x2) := by rw [← X2.out]; exact (hinv.1.cell n2).trans (R2.out.cells k (by omega))
      have i1 : (0 : Int) ≤ (k : Int) := by omega
      have i2 : (k : Int) < (z1.length : Int) := by omega
      have i3 : (k : Int) < (z2.length : Int) := by omega
      have HN : Hid _ := dotk_next (X1.out) (X2.out)
      obtain ⟨s1, S1⟩ : ∃ x, Hid (dotk z1 z2 k = x) := ⟨_, rfl⟩
      have HI : Hid _ := hinv
      clear hinv
      have hfr := HI.out.2
      rw [S1.out]
      rw [S1.out] at hs
      have hx := u8_xor_nat s1 (GfM.mul x1 x2) hs (GfM.mul_lt _ _)
      go_wp2
      go_region_held3 (fun w' => w'.cell? ⟨b1, o1 + k, none⟩ = some (.int .u8 x1) ∧ w'.cell? ⟨b2, o2 + k, none⟩ = some (.int .u8 x2)) (first | exact ⟨by assumption, by assumption⟩ | go_keep)
        ((go_at_call 81; refine (mul_any B x1 x2 _ hfr.drew g1 g2).mono ?_; rintro e w2 ⟨rfl, k2⟩; have q1 := (k2.1.cell (p := ⟨b1, o1 + k, none⟩) n1).trans hc1; have q2 := (k2.1.cell (p := ⟨b2, o2 + k, none⟩) n2).trans hc2))
      clear q1 q2
      go_wp2
      go_roundw
      case rel => exact ⟨k + 1, by omega, by go_num, by rw [HN.out, S1.out], (Kept.drew HI.out).trans k2⟩
      case measure => simp [intOf]; omega
    · obtain rfl : k = z2.length := by omega
      go_wp2
      go_ret
      exact ⟨rfl, hinv⟩

set_option maxRecDepth 100000 in
set_option maxHeartbeats 400000 in
attribute [local go_sem ↓] Go.wp_at_zero Go.wp_at_succ in
theorem dot_rows_le (B b1 o1 c1 b2 o2 c2 : Nat) (z1 z2 : List Nat) (w : World) (hf : Fld B w) (r1 : Row w b1 o1 z1) (r2 : Row w b2 o2 z2) (n1 : b1 ≠ B) (n2 : b2 ≠ B)
    (l1 : z1.length ≤ 9223372036854775807) (l2 : z2.length ≤ 9223372036854775807) (hc : ¬ z2.length < z1.length) :
    Calls Try.prog 72 #[.pointer (some ⟨B, 0, none⟩), .slice (some ⟨b1, o1, none⟩) z1.length c1, .slice (some ⟨b2, o2, none⟩) z2.length c2] w
      fun e w' => e = .returned (.int .u8 (dotk z1 z2 z1.length)) ∧ Kept B w w' := by
  have R1 : Hid _ := r1
  have R2 : Hid _ := r2
  clear r1 r2
  have HK : Hid (Kept B w w) := Kept.refl hf
  clear hf
  go_enter Try.func72, Try.ntmps72
  go_wp2
  go_loopw [7, 14] (fun s i wr => ∃ k : Nat, k ≤ z1.length ∧ i = .int .i64 k ∧ s = .int .u8 (dotk z1 z2 k) ∧ Kept B w wr) (fun _ i _ => z1.length - (intOf i).toNat)
  case atStart => exact ⟨0, by omega, rfl, rfl, HK.out⟩
  case round =>
    obtain ⟨k, hk, rfl, rfl, hinv⟩ := hrel
    have hs := dotk_lt z1 z2 k
    by_cases hlt : k < z1.length
    · obtain ⟨x1, X1⟩ : ∃ x, Hid (z1.getD k 0 = x) := ⟨_, rfl⟩
      obtain ⟨x2, X2⟩ : ∃ x, Hid (z2.getD k 0 = x) := ⟨_, rfl⟩
      have g1 : x1 < 256 := by rw [← X1.out]; exact R1.out.small k
      have g2 : x2 < 256 := by rw [← X2.out]; exact R2.out.small k
      have hc1 : wr.cell? ⟨b1, o1 + k, none⟩ = some (.int .u8 x1) := by rw [← X1.out]; exact (hinv.1.cell n1).trans (R1.out.cells k (by omega))
      have hc2 : wr.cell? ⟨b2, o2 + k, none⟩ = some (.int .u8 x2) := by rw [← X2.out]; exact (hinv.1.cell n2).trans (R2.out.cells k (by omega))
      have i1 : (0 : Int) ≤ (k : Int) := by omega
      have i2 : (k : Int) < (z1.length : Int) := by omega
      have i3 : (k : Int) < (z2.length : Int) := by omega
      have HN : Hid _ := dotk_next (X1.out) (X2.out)
      obtain ⟨s1, S1⟩ : ∃ x, Hid (dotk z1 z2 k = x) := ⟨_, rfl⟩
      have HI : Hid _ := hinv
      clear hinv
      have hfr := HI.out.2
      rw [S1.out]
      rw [S1.out] at hs
      have hx := u8_xor_nat s1 (GfM.mul x1 x2) hs (GfM.mul_lt _ _)
      go_wp2
      go_region_held3 (fun w' => w'.cell? ⟨b1, o1 + k, none⟩ = some (.int .u8 x1) ∧ w'.cell? ⟨b2, o2 + k, none⟩ = some (.int .u8 x2)) (first | exact ⟨by assumption, by assumption⟩ | go_keep)
        ((go_at_call 81; refine (mul_any B x1 x2 _ hfr.drew g1 g2).mono ?_; rintro e w2 ⟨rfl, k2⟩; have q1 := (k2.1.cell (p := ⟨b1, o1 + k, none⟩) n1).trans hc1; have q2 := (k2.1.cell (p := ⟨b2, o2 + k, none⟩) n2).trans hc2))
      clear q1 q2
      go_wp2
      go_roundw
      case rel => exact ⟨k + 1, by omega, by go_num, by rw [HN.out, S1.out], (Kept.drew HI.out).trans k2⟩
      case measure => simp [intOf]; omega
    · obtain rfl : k = z1.length := by omega
      go_wp2
      go_ret
      exact ⟨rfl, hinv⟩

/-- Dot over two rows. -/
theorem dot_rows (B b1 o1 c1 b2 o2 c2 : Nat) (z1 z2 : List Nat) (w : World) (hf : Fld B w) (r1 : Row w b1 o1 z1) (r2 : Row w b2 o2 z2) (n1 : b1 ≠ B) (n2 : b2 ≠ B)
    (l1 : z1.length ≤ 9223372036854775807) (l2 : z2.length ≤ 9223372036854775807) :
    Calls Try.prog 72 #[.pointer (some ⟨B, 0, none⟩), .slice (some ⟨b1, o1, none⟩) z1.length c1, .slice (some ⟨b2, o2, none⟩) z2.length c2] w
      fun e w' => e = .returned (.int .u8 (dotk z1 z2 (min z1.length z2.length))) ∧ Kept B w w' := by
  by_cases h : z2.length < z1.length
  · have : min z1.length z2.length = z2.length := by omega
    rw [this]
    exact dot_rows_gt B b1 o1 c1 b2 o2 c2 z1 z2 w hf r1 r2 n1 n2 l1 l2 h
  · have : min z1.length z2.length = z1.length := by omega
    rw [this]
    exact dot_rows_le B b1 o1 c1 b2 o2 c2 z1 z2 w hf r1 r2 n1 n2 l1 l2 h
/-- Dot where one row is empty: no round. -/
theorem dot_none_r (B n1 c1 : Nat) (a1 : Option Addr) (w : World) (hf : Fld B w) (l1 : n1 ≤ 9223372036854775807) (v2 : Option Addr) (c2 : Nat) :
    Calls Try.prog 72 #[.pointer (some ⟨B, 0, none⟩), .slice a1 n1 c1, .slice v2 0 c2] w
      fun e w' => e = .returned (.int .u8 0) ∧ Kept B w w' := by
  by_cases h : n1 = 0
  · subst h
    go_enter Try.func72, Try.ntmps72
    go_wp2
    refine wp_loop_rounds 1 ?_
    rw [rounds_succ]
    go_wp2
    go_ret
    exact ⟨rfl, Kept.refl hf⟩
  · have hp : 0 < n1 := by omega
    go_enter Try.func72, Try.ntmps72
    go_wp2
    refine wp_loop_rounds 1 ?_
    rw [rounds_succ]
    go_wp2
    go_ret
    exact ⟨rfl, Kept.refl hf⟩
theorem dot_none_l (B n2 c2 : Nat) (a2 : Option Addr) (w : World) (hf : Fld B w) (l2 : n2 ≤ 9223372036854775807) (v1 : Option Addr) (c1 : Nat) :
    Calls Try.prog 72 #[.pointer (some ⟨B, 0, none⟩), .slice v1 0 c1, .slice a2 n2 c2] w
      fun e w' => e = .returned (.int .u8 0) ∧ Kept B w w' := by
  go_enter Try.func72, Try.ntmps72
  go_wp2
  refine wp_loop_rounds 1 ?_
  rw [rounds_succ]
  go_wp2
  go_ret
  exact ⟨rfl, Kept.refl hf⟩
end Go.Proofs.Ytebglmfdchfplaa
