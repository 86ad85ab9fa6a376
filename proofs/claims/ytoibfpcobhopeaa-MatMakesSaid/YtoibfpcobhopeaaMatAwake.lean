/- The statements' own 'awake', 'make1', 'same'. -/
import Derived.Test.YtoibfpcobhopeaaMatInvert
namespace Go.Proofs.Ytoibfpcobhopeaa
open Go.RowKit
set_option linter.unusedVariables false

theorem Newed.up {w w' : World} (h : Newed w w') : Up Nul w w' := Up.of_below h.below _
theorem new_one (F b cap : Nat) (w : World) (hF : F < w.heap.size) (hz : Row w b 0 [2]) (hb : b < w.heap.size) :
    Calls Try.prog 11 #[.pointer (some ⟨F, 0, none⟩), .int .i64 1, .int .i64 1, .slice (some ⟨b, 0, none⟩) 1 cap] w
      fun e w' => e = .returned (.tuple #[.pointer (some ⟨w.heap.size + 1, 0, none⟩), .int .i64 0]) ∧ Newm w w' F 1 1 [2] :=
  new_good F 1 1 1 b 0 cap [2] w hF (by omega) (by omega) (by omega) (by omega) hz hb rfl rfl
theorem invert_one (p q F : Nat) (w : World) (hm : Mat w p q F 1 1 [2]) (hf : Fld F w) :
    Calls Try.prog 12 #[.pointer (some ⟨p, 0, none⟩)] w fun e w' => e = .returned (.tuple #[.pointer (some ⟨w.heap.size + 1, 0, none⟩), .int .i64 0]) ∧
      Up (One F) w w' ∧ Fld F w' ∧ Mat w' (w.heap.size + 1) w.heap.size F 1 1 [142] := by
  have hp : GfM.pivot 1 0 (GfM.beside 1 (cz 1 [2])) = some 0 := by decide +kernel
  have hr := run_next (n := 1) (k := 0) (L := GfM.beside 1 (cz 1 [2])) rfl hp
  have hv : GfM.half 1 (GfM.stl 0 0 (GfM.beside 1 (cz 1 [2]))) 0 0 = 142 := by decide +kernel
  refine (invert_any p q F 1 [2] w hm hf).mono ?_
  rintro e w' ⟨u, f, ⟨h, _⟩ | ⟨M, h1, h2, h3⟩⟩
  · rw [Nat.zero_add] at hr
    rw [hr] at h
    cases h
  · rw [Nat.zero_add] at hr
    rw [hr] at h1
    cases h1
    refine ⟨h2, u, f, ?_⟩
    have e : (tab (1 * 1) fun t => GfM.half 1 (GfM.stl 0 0 (GfM.beside 1 (cz 1 [2]))) (t / 1) (t % 1)) = [142] := by
      show [_] = [_]
      simp [hv]
    rw [e] at h3
    exact h3

set_option maxRecDepth 100000 in
set_option maxHeartbeats 1600000 in
theorem awake_any (w : World) :
    Calls Try.prog 16 #[] w fun e w' => e = .returned (.bool true) ∧ Up Nul w w' := by
  go_enter Try.func16, Try.ntmps16
  go_wp2_with fail
  refine (new_any _).mono ?_
  rintro e w1 ⟨rfl, k1⟩
  have hb : Blk (w1.alloc (.cells (bys [2]) 5)) w1.heap.size [2] := Blk.new w1 [2] (by simp)
  have hr := hb.row 0 1 (by simp)
  have hf1 : Fld w.heap.size (w1.alloc (.cells (bys [2]) 5)) := k1.fld.alloc _
  have HR := hid (And.intro hr (And.intro hf1 (And.intro hb.lt (k1.up.alloc (.cells (bys [2]) 5)))))
  have e2 : bys [2] = #[Value.int .u8 2] := rfl
  rw [e2] at HR
  clear k1 hb hr hf1 e2
  go_wp2_with fail
  generalize w1.alloc (.cells #[Value.int .u8 2] 5) = wb at *
  refine (new_one w.heap.size w1.heap.size _ _ HR.out.2.1.lt HR.out.1 HR.out.2.2.1).mono ?_
  rintro e w2 ⟨rfl, k2⟩
  obtain ⟨p1, P1⟩ : ∃ x, x = wb.heap.size + 1 := ⟨_, rfl⟩
  obtain ⟨q1, Q1⟩ : ∃ x, x = wb.heap.size := ⟨_, rfl⟩
  have hm2 : Mat w2 p1 q1 w.heap.size 1 1 [2] := by rw [P1, Q1]; exact k2.mat
  rw [← P1]
  have hf2 := HR.out.2.1.up k2.up id
  have hu2 := HR.out.2.2.2.trans k2.up
  have H2 := hid (And.intro hm2 (And.intro hf2 hu2))
  clear k2 P1 Q1 hm2 hf2 hu2
  go_wp2_with fail
  refine (invert_one p1 q1 w.heap.size w2 H2.out.1 H2.out.2.1).mono ?_
  rintro e w3 ⟨rfl, u3, f3, m3⟩
  obtain ⟨p2, P2⟩ : ∃ x, x = w2.heap.size + 1 := ⟨_, rfl⟩
  obtain ⟨q2, Q2⟩ : ∃ x, x = w2.heap.size := ⟨_, rfl⟩
  rw [← P2, ← Q2] at m3
  rw [← P2]
  have hm3 : Mat w3 p1 q1 w.heap.size 1 1 [2] := H2.out.1.up u3 H2.out.1.pF H2.out.1.qF
  have ha := at_some p2 q2 w.heap.size 1 1 0 0 [142] w3 m3 (by omega) (by omega)
  have hb := fun (n : Nat) => at_none p1 q1 w.heap.size 1 1 1 0 [2] (w3.drewN n) (hm3.drewN n) (by omega)
  have HA : Hid (Calls Try.prog 20 #[.pointer (some ⟨p2, 0, none⟩), .int .i64 0, .int .i64 0] w3 fun e w' => e = .returned (.int .u8 142) ∧ ∃ n, w' = w3.drewN n) := ha
  have HB := hid hb
  have HU : Hid (Up Nul w w3) := by
    have hu := H2.out.2.2
    exact ⟨u3.os.trans hu.os, u3.tape.trans hu.tape, u3.output.trans hu.output, Nat.le_trans hu.size u3.size, fun k hk hs => (u3.block k (Nat.lt_of_lt_of_le hk hu.size) (by unfold One; omega)).trans (hu.block k hk hs)⟩
  clear u3 f3 m3 hm3 ha hb P2 Q2
  go_wp2_with (first
    | (go_at_call 20; (with_reducible refine HA.out.mono ?_); rintro e w4 ⟨rfl, n4, rfl⟩)
    | (go_at_call 20; (with_reducible refine (HB.out n4).mono ?_); rintro e w5 ⟨rfl, rfl⟩))
  go_ret
  exact ⟨rfl, HU.out.drewN _⟩
end Go.Proofs.Ytoibfpcobhopeaa
