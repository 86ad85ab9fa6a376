/- The law CrcSteps, walked. -/
import Derived.Test.YtdkncehgaollcaaCrcOwn
import Derived.RegionTactic
import Derived.ChangeAlike
import Derived.WalkLawsBesides
import Derived.IntWalk
namespace Go.Proofs.Ytdkncehgaollcaa
open Go.RowKit
set_option linter.unusedVariables false

theorem i64_mask5 (n : Int) : ∃ k : Nat, bits .and .i64 n 31 = (k : Int) - 1 ∧ 1 ≤ k ∧ k ≤ 32 := by
  have key : (BitVec.ofInt 64 n &&& BitVec.ofInt 64 31).toNat = (n % ((2 ^ 64 : Nat) : Int)).toNat % 2 ^ 5 := by
    rw [BitVec.toNat_and, BitVec.toNat_ofInt, show (BitVec.ofInt 64 31).toNat = 2 ^ 5 - 1 by decide, Nat.and_two_pow_sub_one_eq_mod]
  refine ⟨(n % ((2 ^ 64 : Nat) : Int)).toNat % 2 ^ 5 + 1, ?_, by omega, by omega⟩
  show IntKind.i64.wrap ((BitVec.ofInt 64 n &&& BitVec.ofInt 64 31).toNat : Nat) = _
  rw [key, IntKind.wrap_i64]
  omega

theorem steps_long (a : Option Addr) (n cap : Nat) (x : Int) (w : World) (h : 200 < n) :
    Calls Try.prog 3 #[.slice a n cap, .int .i64 x] w fun e w' => e = .returned (.bool true) ∧ Below w.heap.size w w' := by
  go_enter Try.func3, Try.ntmps3
  go_wp2_with fail
  refine (awake_any _).mono ?_
  rintro e w2 ⟨rfl, k2⟩
  go_wp2
  go_ret
  exact ⟨rfl, k2.below (Nat.le_refl _) fun _ _ => id⟩

set_option maxRecDepth 100000 in
set_option maxHeartbeats 12000000 in
theorem steps_short (a : Option Addr) (n cap : Nat) (z : List Nat) (x : Int) (w : World) (h : n ≤ 200) (ha : a = none → n = 0 ∧ cap = 0) (hb : SlN w a n z) :
    Calls Try.prog 3 #[.slice a n cap, .int .i64 x] w fun e w' => e = .returned (.bool true) ∧ Below w.heap.size w w' := by
  obtain ⟨p, hm, p1, p32⟩ := i64_mask5 x
  have HB := hid hb
  have HA := hid ha
  have hz8 := hb.small
  have HZ8 := hid hz8
  clear hb ha hz8
  go_enter Try.func3, Try.ntmps3
  go_wp2
  go_loop [5, 6] (fun s i => ∃ j y : Nat, j ≤ n ∧ i = .int .i64 j ∧ s = .int .u32 y ∧ y < 4294967296 ∧ Hid (CrcM.regs 4294967295 (z.take j) = y)) (fun _ i => n - (intOf i).toNat)
  case atStart => exact ⟨0, 4294967295, by omega, rfl, rfl, by omega, rfl⟩
  case round =>
    obtain ⟨j, y, hj, rfl, rfl, y8, HY⟩ := hrel
    by_cases hjn : j < n
    · obtain ⟨b, o, rfl, hb, hrow⟩ : ∃ b o, a = some ⟨b, o, none⟩ ∧ b < w.heap.size ∧ Row w b o z := by
        rcases HB.out.row with e | h
        · omega
        · exact h
      have hjz : Hid (j < z.length) := by show j < _; rw [HB.out.len]; exact hjn
      have hcj := hrow.cells j hjz.out
      have cj8 := hrow.small j
      have HT := hid (CrcM.regs_take (r := 4294967295) hjz.out)
      obtain ⟨c, C⟩ : ∃ c, Hid (z.getD j 0 = c) := ⟨_, rfl⟩
      rw [C.out] at hcj cj8 HT
      clear hrow
      have j1 : (0 : Int) ≤ (j : Int) := by omega
      have j2 : (j : Int) < (n : Int) := by omega
      go_wp2_with (go_at_call 8; refine (step_any y c _ y8 cj8).mono ?_; rintro e w' ⟨rfl, rfl⟩)
      go_round
      case rel => exact ⟨j + 1, CrcM.stp y c, by omega, by go_num, rfl, CrcM.stp_lt y8 cj8, by show _ = _; rw [HT.out, HY.out]⟩
      case measure => simp [intOf]; omega
    · obtain rfl : j = n := by omega
      have hmk := fun W => make_bytes W p (by omega)
      have hmk2 := fun W => make_bytes W (p + 1) (by omega)
      have em : ((p + 1 : Nat) : Int) = (p : Int) + 1 := by omega
      rw [em] at hmk2
      clear em
      have hnot := not_u32 y8
      have HS : Hid (CrcM.sum z = y ^^^ 4294967295) := by
        show _ = _
        rw [← HY.out, List.take_of_length_le (by rw [HB.out.len]; exact Nat.le_refl _)]
        rfl
      obtain ⟨v, V⟩ : ∃ v, Hid (y ^^^ 4294967295 = v) := ⟨_, rfl⟩
      rw [V.out] at hnot HS
      have HM := hid (OwnB.blk (base := w.heap.size) (Blk.new w (zer p) (zer_small _)) (Nat.le_refl _) (by rw [zer_length]; omega))
      rw [zer_length] at HM
      have HBA := hid (HB.out.next ((Up.refl Nul w).alloc (.cells (bys (zer p)) 5)))
      have HUA := hid ((Up.refl Nul w).alloc (.cells (bys (zer p)) 5))
      go_wp2_with (at_builtin; refine wpList_append_sl rfl _ _ rfl w.heap.size _ (zer p) rfl HM.out a j cap z rfl HBA.out HA.out (by rw [zer_length]; omega) (by simp) ?_; intro v' w1 hown hgrow)
      have HL : Hid ((zer p ++ z).length = p + j) := by show _ = _; rw [List.length_append, zer_length, HB.out.len]
      obtain ⟨g, cp, rfl, hgw, hcp, hmine⟩ := Mine.of hown.out (by rw [HL.out]; omega)
      have HI := hid (HUA.out.grown hgrow.out fun k hk => HM.out.base k hk)
      rw [HL.out]
      have HG := hid (hmine.sl (by rw [HL.out]; omega))
      rw [HL.out] at HG
      have HB1 := hid (HB.out.next HI.out)
      have HCV : Hid (∀ W, Up Nul w1 W → (convert 22 9 (.slice (some ⟨g, 0, none⟩) (p + j) cp)).run Try.prog W = .ok (.string (strOf (zer p ++ z))) W) := fun W u => conv_row (hmine.row.up u hmine.lt id) HL.out
      have HNS : Hid (nums (strOf (zer p ++ z)) = zer p ++ z) := nums_strOf hmine.row.small
      have HSZ : Hid ((strOf (zer p ++ z)).size ≤ 9223372036854775807) := by show _ ≤ _; rw [strOf_size, HL.out]; omega
      have hne := CrcM.sum_zeros p1 p32
      have HZ1 : Hid (∀ W : World, SlN (W.alloc (.cells (bys (zer p)) 5)) (some ⟨W.heap.size, 0, none⟩) p (zer p)) := fun W => by
        have h := SlN.mark W (zer p) (0, 0) (zer_small p) (by rw [zer_length]; omega) _ rfl
        rwa [zer_length] at h
      have HZ1' : Hid (∀ (W : World) (o : Obj), SlN ((W.alloc o).alloc (.cells (bys (zer p)) 5)) (some ⟨W.heap.size + 1, 0, none⟩) p (zer p)) := fun W o => by
        have h := SlN.mark (W.alloc o) (zer p) (0, 0) (zer_small p) (by rw [zer_length]; omega) (W.heap.size + 1) (by simp)
        rwa [zer_length] at h
      have HZ2 : Hid (∀ W : World, SlN (W.alloc (.cells (bys (zer (p + 1))) 5)) (some ⟨W.heap.size, 0, none⟩) (p + 1) (zer (p + 1))) := fun W => by
        have h := SlN.mark W (zer (p + 1)) (0, 0) (zer_small _) (by rw [zer_length]; omega) _ rfl
        rwa [zer_length] at h
      have HZ2' : Hid (∀ (W : World) (o : Obj), SlN ((W.alloc o).alloc (.cells (bys (zer (p + 1))) 5)) (some ⟨W.heap.size + 1, 0, none⟩) (p + 1) (zer (p + 1))) := fun W o => by
        have h := SlN.mark (W.alloc o) (zer (p + 1)) (0, 0) (zer_small _) (by rw [zer_length]; omega) (W.heap.size + 1) (by simp)
        rwa [zer_length] at h
      obtain ⟨s1, S1⟩ : ∃ x, Hid (CrcM.sum (zer p ++ z) = x) := ⟨_, rfl⟩
      obtain ⟨s2, S2⟩ : ∃ x, Hid (CrcM.sum (zer p) = x) := ⟨_, rfl⟩
      obtain ⟨s3, S3⟩ : ∃ x, Hid (CrcM.sum (zer (p + 1)) = x) := ⟨_, rfl⟩
      have hne' : s2 ≠ s3 := by rw [← S2.out, ← S3.out]; exact hne
      have t1 : ((s2 : Int) == (s3 : Int)) = false := by simp; omega
      have t2 : ((s2 : Int) != (s3 : Int)) = true := by simp; omega
      clear hne hne' hmine hown hgrow HM HBA HUA HA
      have hw := IntWalk.i64_in ((p : Int) + 1) (by omega)
      have D : Up Nul w1 w1.drew := (Up.refl Nul w1).drew
      go_region_with ((first
        | (go_at_call 9; (with_reducible refine (sum_any a j cap z _ (HB1.out.next D)).mono ?_); rintro e wa ⟨rfl, ka⟩; rw [HS.out]; have A := D.trans ka; have ca := HCV.out wa A)
        | (go_at_call 9; (with_reducible refine (sum_any (some ⟨g, 0, none⟩) (p + j) cp (zer p ++ z) _ (HG.out.next (by first | exact C | exact A))).mono ?_); rintro e wb ⟨rfl, kb⟩; rw [S1.out]; have B := Up.trans (show Up Nul w1 _ from by first | exact C | exact A) kb; have cb := HCV.out wb B)
        | (go_at_call 10; (with_reducible refine (refSum_any _ _ HSZ.out).mono ?_); rintro e wb' ⟨rfl, rfl⟩; rw [HNS.out, S1.out])
        | (go_at_call 11; (with_reducible refine (many_two_at _ (by simp) _ _ _ _ _ _ (zer p) z _ (HZ1.out _) (HB1.out.next (B.alloc _))).mono ?_); rintro e wc ⟨rfl, kc⟩; rw [S1.out]; have C := (B.alloc _).trans kc)
        | (go_at_call 9; (with_reducible refine (sum_any _ p p (zer p) _ ?_).mono ?_); (focus (first | exact HZ1.out _ | exact HZ1'.out _ _ | exact (HZ1.out _).next ((Up.refl Nul _).alloc _))); rintro e wd ⟨rfl, kd⟩; rw [S2.out]; have E := Up.trans (show Up Nul w1 _ from by first | exact B.alloc _ | exact (B.alloc _).alloc _) kd)
        | (go_at_call 9; (with_reducible refine (sum_any _ (p + 1) (p + 1) (zer (p + 1)) _ ?_).mono ?_); (focus (first | exact HZ2.out _ | exact (HZ2'.out _ _).next kd | exact ((HZ2.out _).next ((Up.refl Nul _).alloc _)).next kd)); rintro e we ⟨rfl, ke⟩; rw [S3.out]; have F := Up.trans (show Up Nul w1 _ from by first | exact E | exact E.alloc _) ke)
        | (go_at_call 7; (with_reducible refine (awake_any _).mono ?_); rintro e wf ⟨rfl, kf⟩; have G := F.trans kf)))
      all_goals
        go_wp2
        go_ret
        exact ⟨rfl, (HI.out.trans G).below (Nat.le_refl _) fun _ _ => id⟩
theorem steps_walk (a0 : Option Addr) (len0 cap0 : Nat) (z0 : List Int) (a1 : Int) (w : World) (w0 : CameIn w a0 len0 cap0 z0) :
    Calls Try.prog 3 #[.slice a0 len0 cap0, .int .i64 a1] w fun e w' => e = .returned (.bool true) ∧ Below w.heap.size w w' := by
  by_cases h : 200 < len0
  · exact steps_long a0 len0 cap0 a1 w h
  · obtain ⟨y0, h0⟩ := SlN.of w0
    exact steps_short a0 len0 cap0 y0 a1 w (by omega) (came_nil w0) h0
end Go.Proofs.Ytdkncehgaollcaa
