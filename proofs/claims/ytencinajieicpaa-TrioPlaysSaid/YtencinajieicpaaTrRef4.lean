/- The document's Trio: Mend. -/
import Derived.Test.YtencinajieicpaaTrRef
import Derived.Deep.CutBlock
import Derived.Deep.DeepCutAuto
namespace Go.Proofs.Ytencinajieicpaa
open Go.RowKit
set_option linter.unusedVariables false

def frD (S : Nat → TS) (i j : Nat) : Option Nat := ((List.range 3).drop j).find? fun k => decide (¬ k = i) && (S k).live
def fvO : Option Nat → Int
  | none => -1
  | some a => (a : Int)
theorem frD_top (S : Nat → TS) (i : Nat) : frD S i 3 = none := rfl
theorem frD_all (S : Nat → TS) (i : Nat) : frD S i 0 = frm S i := rfl
theorem frD_step (S : Nat → TS) (i : Nat) {j : Nat} (hj : j < 3) : frD S i j = if ¬ j = i ∧ (S j).live = true then some j else frD S i (j + 1) := by
  have h : (List.range 3).drop j = j :: (List.range 3).drop (j + 1) := by
    obtain rfl | rfl | rfl : j = 0 ∨ j = 1 ∨ j = 2 := by omega
    · rfl
    · rfl
    · rfl
  unfold frD
  rw [h, List.find?_cons]
  by_cases e : ¬ j = i ∧ (S j).live = true
  · rw [if_pos e]; simp [e.1, e.2]
  · rw [if_neg e]
    have : (decide (¬ j = i) && (S j).live) = false := by
      by_cases e1 : j = i
      · simp [e1]
      · cases h2 : (S j).live
        · simp
        · exact absurd ⟨e1, h2⟩ e
    rw [this]
theorem frD_good {S : Nat → TS} {i j a : Nat} (h : frD S i j = some a) : a < 3 ∧ ¬ a = i ∧ (S a).live = true := by
  unfold frD at h
  have h1 := List.find?_some h
  have h2 := List.mem_range.1 (List.mem_of_mem_drop (List.mem_of_find?_eq_some h))
  simp at h1
  exact ⟨h2, h1.1, h1.2⟩
section
variable {w w' : World} {qm : Nat → Nat} {v m N : Nat} {k k' : Option Nat} {S S' : Nat → TS}
def RMd (w : World) (m : Nat) (qm : Nat → Nat) (v N : Nat) (r : Int × (Nat → TS) × Option Nat) (e : Ending) (w' : World) : Prop :=
  e = .returned (.int .i64 r.1) ∧ RTx w' m qm v N r.2.2 r.2.1 ∧ Up (Rx qm v) w w'
set_option maxRecDepth 100000 in
set_option maxHeartbeats 6400000 in
theorem rmend_at (h : RTx w m qm v N k S) (i : Nat) (hi : i < 3) : Calls Try.prog 30 #[.pointer (some ⟨m, 0, none⟩), .int .i64 (i : Nat)] w (RMd w m qm v N (tMnd S k (i : Nat))) := by
  obtain ⟨R, HRR⟩ : ∃ R : Ending → World → Prop, Hid (R = RMd w m qm v N (tMnd S k (i : Nat))) := ⟨_, rfl⟩
  rw [← HRR.out]
  have HX := hid h
  have HI := hid hi
  have HC := hid (rtc_cells h.head).1
  have ci := (rtc_cells h.head).1 i hi
  have li := h.ds.live hi
  have i0 : (0 : Int) ≤ (i : Int) := by omega
  have i1 : ¬ (2 : Int) < (i : Int) := by omega
  have i2 : (i : Int) < 3 := by omega
  cases hv : (S i).live with
  | false =>
    rw [hv] at li
    have ht : tMnd S k (i : Nat) = (1, S, k) := by unfold tMnd; rw [if_pos (.inr (.inr (by rw [Int.toNat_natCast]; exact hv)))]
    rw [ht] at HRR
    clear h hi hv ht
    go_enter Try.func30, Try.ntmps30
    go_wp2_with fail
    rw [HRR.out]
    exact ⟨rfl, HX.out, Up.refl _ _⟩
  | true =>
    rw [hv] at li
    have HLV := hid hv
    have HMN : Hid (tMnd S k (i : Nat) = match frm S i with | none => (8, S, k) | some j => if k = some 0 then (4, S, k) else if less k = some 0 then (4, updT S i ⟨[], 0, true⟩, less k) else if less (less k) = some 0 then (4, updT S i ⟨(S j).B, (S j).B.length, true⟩, less (less k)) else (0, updT S i ⟨(S j).B, 0, true⟩, less (less k))) := by
      show _ = _
      unfold tMnd
      rw [if_neg (by rw [Int.toNat_natCast, hv]; simp; omega), Int.toNat_natCast]
      generalize frm S i = x
      cases x <;> rfl
    have HST := hid fun j hj => frD_step S i (j := j) hj
    have HLL := hid fun j hj => h.ds.live (i := j) hj
    clear h hi hv
    go_enter Try.func30, Try.ntmps30
    go_upto_block 0 with fail
    go_cut [5] (fun s5 wx => s5 = .int .i64 (fvO (frm S i)) ∧ wx = w)
    case first =>
      as_aux_lemma =>
        clear ci li
        go_wp2_with fail
        go_loopw [5, 6] (fun fv kv wr => ∃ (j : Nat) (z : Int), j ≤ 3 ∧ kv = .int .i64 z ∧ z = (j : Int) - 1 ∧ fv = .int .i64 (fvO (frD S i j)) ∧ wr = w) (fun _ kv _ => (intOf kv + 1).toNat)
        case atStart => exact ⟨3, 2, Nat.le_refl _, rfl, rfl, rfl, rfl⟩
        case round =>
          obtain ⟨j, z, hj, rfl, hz, rfl, rfl⟩ := hrel
          cases j with
          | zero =>
            have hz0 : ¬ 0 ≤ z := by omega
            have HE : Hid (frD S i 0 = frm S i) := rfl
            rw [HE.out]
            clear hj hz
            go_wp2_with fail
            go_meet
            case rel => exact ⟨rfl, rfl⟩
          | succ j =>
            obtain rfl : z = (j : Int) := by omega
            have hj3 : j < 3 := by omega
            have j0 : (0 : Int) ≤ (j : Int) := by omega
            have j1 : (j : Int) < 3 := by omega
            have c := HC.out j hj3
            have l := HLL.out j hj3
            have hst := HST.out j hj3
            have HST2 := hid hst
            have HJ3 := hid hj3
            generalize frD S i (j + 1) = od at HST2 ⊢
            clear hst hz hj hj3
            by_cases e : j = i
            · have k3 : ((j : Int) == (i : Int)) = true := by simp [e]
              have HNX : Hid (frD S i j = od) := by show _ = _; rw [HST2.out, if_neg fun h => h.1 e]
              go_wp2_with fail
              go_roundw
              case rel => exact ⟨j, (j : Int) - 1, by have := HJ3.out; omega, by go_num, rfl, by rw [HNX.out], by trivial⟩
              case measure => simp [intOf]; try omega
            · have k3 : ((j : Int) == (i : Int)) = false := by simp; omega
              cases hl : (S j).live with
              | false =>
                rw [hl] at l
                have HNX : Hid (frD S i j = od) := by show _ = _; rw [HST2.out, if_neg fun h => by rw [hl] at h; cases h.2]
                clear hl
                go_wp2_with fail
                go_roundw
                case rel => exact ⟨j, (j : Int) - 1, by have := HJ3.out; omega, by go_num, rfl, by rw [HNX.out], by trivial⟩
                case measure => simp [intOf]; try omega
              | true =>
                rw [hl] at l
                have HNX : Hid (frD S i j = some j) := by show _ = _; rw [HST2.out, if_pos ⟨e, hl⟩]
                clear hl
                go_wp2_with fail
                go_roundw
                case rel => exact ⟨j, (j : Int) - 1, by have := HJ3.out; omega, by go_num, rfl, by rw [HNX.out, fvO], by trivial⟩
                case measure => simp [intOf]; try omega
    case rest =>
      obtain ⟨rfl, rfl⟩ := hcut
      cases hf : frm S i with
      | none =>
        have hm := HMN.out
        rw [hf] at hm
        rw [hm] at HRR
        have e0 : fvO none < 0 := by show (-1 : Int) < 0; omega
        generalize fvO none = fz at e0
        clear hf hm
        go_wp2_with fail
        rw [HRR.out]
        exact ⟨rfl, HX.out, Up.refl _ _⟩
      | some j =>
        have hm := HMN.out
        rw [hf] at hm
        have HM := hid hm
        obtain ⟨hj, hji, hjv⟩ := frD_good (j := 0) hf
        have e0 : ¬ (j : Int) < 0 := by omega
        have j0 : (0 : Int) ≤ (j : Int) := by omega
        have j1 : (j : Int) < 3 := by omega
        have HEJ : Hid (fvO (some j) = (j : Int)) := rfl
        rw [HEJ.out]
        have HJ := hid (And.intro hj hji)
        have HCT := hid (ds_cut HX.out.ds HI.out HLV.out 0 (Nat.zero_le _))
        have HBL := hid (HX.out.ds.r.t j hj).le
        clear hf hm hj hji hjv li
        go_wp2_with fail
        refine HCT.out.mono ?_
        rintro e w7 (⟨hk, rfl, rfl⟩ | ⟨hk, rfl, hd7, u7⟩)
        · have HE : Hid (tMnd S k (i : Nat) = (4, S, k)) := HM.out.trans (if_pos hk)
          rw [HE.out] at HRR
          clear hk
          go_wp2_with fail
          rw [HRR.out]
          exact ⟨rfl, HX.out, Up.refl _ _⟩
        · have HM1 := hid (HM.out.trans (if_neg hk))
          rw [List.take_zero] at hd7
          have hh7 := rtc_up HX.out.head HX.out.ds u7
          have HX7 := hid hd7
          have HH7 := hid hh7
          have U7 := hid u7
          have ci7 := (rtc_cells hh7).1 i HI.out
          have cj7 := (rtc_cells hh7).1 j HJ.out.1
          have bj7 := hd7.byt HJ.out.1
          rw [updT_other _ _ HJ.out.2] at bj7
          have hap := fun W (u : Up Nul w7 W) => ds_append (HX7.out.nxt u) HI.out (by rw [updT_same]) (S j).B (by rw [updT_same]; show 0 + _ ≤ 65536; have := HBL.out; omega)
          rw [updT_same] at hap
          simp only [updT_twice] at hap
          clear hk hd7 u7 hh7 HCT ci
          by_cases hk1 : less k = some 0
          · have ha1 : apA (S j).B ⟨[], 0, true⟩ (less k) = (false, ⟨[], 0, true⟩, less k) := by unfold apA; rw [if_pos rfl, if_pos hk1]
            rw [ha1] at hap
            have HAP : Hid (∀ W, Up Nul w7 W → Calls Try.prog 52 #[.pointer (some ⟨qm i, 0, none⟩), .string (strOf (S j).B)] W fun e w' => e = .returned (.int .i64 4) ∧ DS w' qm v (less k) (updT S i ⟨[], 0, true⟩) ∧ Up (Rx qm v) W w') := hap
            have HE : Hid (tMnd S k (i : Nat) = (4, updT S i ⟨[], 0, true⟩, less k)) := HM1.out.trans (if_pos hk1)
            rw [HE.out] at HRR
            generalize strOf (S j).B = sd at bj7 HAP
            clear hk1 ha1 hap
            go_wp2_with fail
            go_region_with ((go_at_call 52; (with_reducible refine (HAP.out _ (by first | exact (Up.refl _ _).drew | exact Up.refl _ _)).mono ?_); rintro e w8 ⟨rfl, hd8, u8⟩; have U8 : Hid (Up (Rx qm v) w7 w8) := (Up.trans (by first | exact (Up.refl _ _).drew | exact Up.refl _ _) u8); have HX8 := hid hd8; clear hd8 u8))
            all_goals
              go_wp2_with fail
              rw [HRR.out]
              exact ⟨rfl, ⟨rtc_up HH7.out HX7.out U8.out, HX8.out⟩, U7.out.trans U8.out⟩
          · have ha1 : apA (S j).B ⟨[], 0, true⟩ (less k) = (true, ⟨[] ++ (S j).B, 0 + (S j).B.length, true⟩, less (less k)) := by unfold apA; rw [if_pos rfl, if_neg hk1]
            rw [ha1, Nat.zero_add, List.nil_append] at hap
            have HAP : Hid (∀ W, Up Nul w7 W → Calls Try.prog 52 #[.pointer (some ⟨qm i, 0, none⟩), .string (strOf (S j).B)] W fun e w' => e = .returned (.int .i64 0) ∧ DS w' qm v (less (less k)) (updT S i ⟨(S j).B, (S j).B.length, true⟩) ∧ Up (Rx qm v) W w') := hap
            have HM2 := hid (HM1.out.trans (if_neg hk1))
            generalize strOf (S j).B = sd at bj7 HAP
            clear hk1 ha1 hap
            go_wp2_with fail
            go_region_with ((go_at_call 52; (with_reducible refine (HAP.out _ (by first | exact (Up.refl _ _).drew | exact Up.refl _ _)).mono ?_); rintro e w8 ⟨rfl, hd8, u8⟩; have U8 : Hid (Up (Rx qm v) w7 w8) := (Up.trans (by first | exact (Up.refl _ _).drew | exact Up.refl _ _) u8); have HX8 := hid hd8; clear hd8 u8))
            all_goals
              have HH8 := hid (rtc_up HH7.out HX7.out U8.out)
              have ci8 := (rtc_cells HH8.out).1 i HI.out
              have hsy := ds_sync HX8.out HI.out (by rw [updT_same])
              rw [updT_same] at hsy
              simp only [updT_twice] at hsy
              by_cases hk2 : less (less k) = some 0
              · have ha2 : syA ⟨(S j).B, (S j).B.length, true⟩ (less (less k)) = (false, ⟨(S j).B, (S j).B.length, true⟩, less (less k)) := by unfold syA; rw [if_pos rfl, if_pos hk2]
                rw [ha2] at hsy
                have HSY : Hid (Calls Try.prog 53 #[.pointer (some ⟨qm i, 0, none⟩)] w8 fun e w' => e = .returned (.int .i64 4) ∧ DS w' qm v (less (less k)) (updT S i ⟨(S j).B, (S j).B.length, true⟩) ∧ Up (Rx qm v) w8 w') := hsy
                have HE : Hid (tMnd S k (i : Nat) = (4, updT S i ⟨(S j).B, (S j).B.length, true⟩, less (less k))) := HM2.out.trans (if_pos hk2)
                rw [HE.out] at HRR
                clear hk2 ha2 hsy
                go_wp2_with fail
                refine HSY.out.mono ?_
                rintro e w9 ⟨rfl, hd9, u9⟩
                have HX9 := hid hd9
                have U9 := hid u9
                clear hd9 u9
                go_wp2_with fail
                rw [HRR.out]
                exact ⟨rfl, ⟨rtc_up HH8.out HX8.out U9.out, HX9.out⟩, (U7.out.trans U8.out).trans U9.out⟩
              · have ha2 : syA ⟨(S j).B, (S j).B.length, true⟩ (less (less k)) = (true, ⟨(S j).B, 0, true⟩, less (less k)) := by unfold syA; rw [if_pos rfl, if_neg hk2]
                rw [ha2] at hsy
                have HSY : Hid (Calls Try.prog 53 #[.pointer (some ⟨qm i, 0, none⟩)] w8 fun e w' => e = .returned (.int .i64 0) ∧ DS w' qm v (less (less k)) (updT S i ⟨(S j).B, 0, true⟩) ∧ Up (Rx qm v) w8 w') := hsy
                have HE : Hid (tMnd S k (i : Nat) = (0, updT S i ⟨(S j).B, 0, true⟩, less (less k))) := HM2.out.trans (if_neg hk2)
                rw [HE.out] at HRR
                clear hk2 ha2 hsy
                go_wp2_with fail
                refine HSY.out.mono ?_
                rintro e w9 ⟨rfl, hd9, u9⟩
                have HX9 := hid hd9
                have U9 := hid u9
                clear hd9 u9
                go_wp2_with fail
                rw [HRR.out]
                exact ⟨rfl, ⟨rtc_up HH8.out HX8.out U9.out, HX9.out⟩, (U7.out.trans U8.out).trans U9.out⟩
theorem rmend_any (h : RTx w m qm v N k S) (x : Int) : Calls Try.prog 30 #[.pointer (some ⟨m, 0, none⟩), .int .i64 x] w (RMd w m qm v N (tMnd S k x)) := by
  by_cases hx : x < 0 ∨ 2 < x
  · have ht : tMnd S k x = (1, S, k) := by
      unfold tMnd
      rw [if_pos (hx.imp id .inl)]
    rw [ht]
    have HF : Hid (RMd w m qm v N (1, S, k) (.returned (.int .i64 1)) w) := ⟨rfl, h, Up.refl _ _⟩
    generalize RMd w m qm v N (1, S, k) = R at HF ⊢
    rcases hx with hx | hx
    · clear h ht
      go_enter Try.func30, Try.ntmps30
      go_wp2_with fail
      exact HF.out
    · have h1 : ¬ x < 0 := by omega
      clear h ht
      go_enter Try.func30, Try.ntmps30
      go_wp2_with fail
      exact HF.out
  · obtain ⟨i, rfl⟩ : ∃ i : Nat, x = i := ⟨x.toNat, by omega⟩
    exact rmend_at h i (by omega)
end
end Go.Proofs.Ytencinajieicpaa
