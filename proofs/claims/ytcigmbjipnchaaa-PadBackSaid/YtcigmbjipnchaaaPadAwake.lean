/- 'awake' of the statements. -/
import Derived.Test.YtcigmbjipnchaaaPadJoin
namespace Go.Proofs.Ytcigmbjipnchaaa
open Go.RowKit
set_option linter.unusedVariables false

/-- A new row of bytes. -/
theorem SlN.mark (w : World) (z : List Nat) (fr : Nat × Nat) (hz : ∀ x ∈ z, x < 256) (hl : z.length ≤ 9223372036854775807) (q : Nat) (hq : q = w.heap.size) : SlN (w.alloc (.cells (bys z) 5 fr)) (some ⟨q, 0, none⟩) z.length z := by
  subst hq
  refine ⟨rfl, .inr ⟨_, 0, rfl, by simp, fun i hi => ?_, fun i => small_getD hz i⟩, hl⟩
  rw [World.cell?_alloc_mark, Nat.zero_add]
  exact bys_at z i hi
theorem full_some (a : Option Addr) (n cap : Nat) (z : List Nat) (w : World) (hz : SlN w a n z) (h : n ≤ 64) :
    Calls Try.prog 11 #[.slice a n cap] w fun e w' => ∃ q, e = .returned (.tuple #[.slice (some ⟨q, 0, none⟩) 64 64, .bool true]) ∧ Blk w' q (ful z) ∧ Up Nul w w' :=
  (full_good a n cap z w hz h).mono fun e w' ⟨h1, h2, h3⟩ => ⟨_, h1, h2, h3⟩
set_option maxHeartbeats 800000 in
set_option maxRecDepth 100000 in
theorem awake_any (w : World) : Calls Try.prog 7 #[] w fun e w' => e = .returned (.bool true) ∧ Up Nul w w' := by
  go_enter Try.func7, Try.ntmps7
  go_wp2_with fail
  refine (full_some (some ⟨w.heap.size, 0, none⟩) 1 1 [1] _ (SlN.mark w [1] _ (by decide) (by decide) _ rfl) (by omega)).mono ?_
  rintro e w1 ⟨q, rfl, f1, f2⟩
  have H1 : Hid (Up Nul w w1) := ((Up.refl _ _).alloc _).trans f2
  have HB := hid f1
  clear f1 f2
  go_wp2_with fail
  refine (part_good (some ⟨w1.heap.size, 0, none⟩) 3 3 1 2 [1, 2, 3] _ (SlN.mark w1 [1, 2, 3] _ (by decide) (by decide) _ rfl) (by omega) (fun e => by cases e) (by omega) (by omega)).mono ?_
  rintro e w2 ⟨a', c, rfl, k1⟩
  have H2 : Hid (Up Nul w w2) := (H1.out.alloc _).trans k1.up
  have hc : (convert 22 9 (.slice a' 2 c)).run Try.prog w2 = .ok (.string ⟨#[2, 3]⟩) w2 := k1.sl.conv c
  have y0 : w2.cell? ⟨q, 0, none⟩ = some (.int .u8 1) := ((HB.out.alloc _).up k1.up id).cell 0 (by rw [ful_length (by decide)]; decide)
  have hqq : ((⟨#[2, 3]⟩ : ByteArray).toList == (⟨#[2, 3]⟩ : ByteArray).toList) = true := by simp
  clear k1 H1 HB
  go_wp2
  go_ret
  exact ⟨rfl, H2.out⟩
end Go.Proofs.Ytcigmbjipnchaaa
