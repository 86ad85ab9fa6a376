/- Open's parts: align. -/
import Derived.Test.YtencinajieicpaaTrLive
import Derived.Test.YtencinajieicpaaTrPack
namespace Go.Proofs.Ytencinajieicpaa
open Go.RowKit
set_option linter.unusedVariables false

theorem flt_drop (R : List (List Nat)) (m : Nat) : (flt R).drop (flt (R.take m)).length = flt (R.drop m) := by
  have h : flt R = flt (R.take m) ++ flt (R.drop m) := by rw [← flt_append, List.take_append_drop]
  conv => lhs; rw [h]
  rw [List.drop_left']
  rfl
theorem flt_many (R : List (List Nat)) : R.length ≤ (flt R).length := by
  induction R with
  | nil => exact Nat.le_refl _
  | cons z R ih => rw [flt_cons, List.length_append, enc_length, List.length_cons]; omega
theorem flt_drop_le (R : List (List Nat)) (m : Nat) : (flt (R.take m)).length + (flt (R.drop m)).length = (flt R).length := by
  rw [← List.length_append, ← flt_append, List.take_append_drop]
theorem com_fits (b : List Nat) (R : List (List Nat)) : (flt (com (spl b) R)).length ≤ b.length := by
  obtain ⟨t, h⟩ := flt_spl b
  obtain ⟨s, h2⟩ := com_left (spl b) R
  have h := congrArg List.length h
  rw [h2, flt_append, List.append_assoc, List.length_append] at h
  omega
section
variable {w w' : World} {q : Nat → Nat} {fu k : Option Nat} {S : Nat → TS} {T : Nat → Prop}
/-- What rewrite does, as the model says it. -/
theorem fxA_rw {R : List (List Nat)} {s : TS} {k : Option Nat} (hv : s.live = true) (hne : ¬ s.B = flt R) :
    (if (fxA R s k).1 = true then (0 : Int) else 4) = (rwT s k (flt (com (spl s.B) R)).length ((flt R).drop (flt (com (spl s.B) R)).length)).1 ∧ (fxA R s k).2 = (rwT s k (flt (com (spl s.B) R)).length ((flt R).drop (flt (com (spl s.B) R)).length)).2 := by
  have hc : s.live = true ∧ ¬ s.B = flt R := ⟨hv, hne⟩
  have hf : fxA R s k = ((rwT s k (flt (com (spl s.B) R)).length ((flt R).drop (flt (com (spl s.B) R)).length)).1 == 0, (rwT s k (flt (com (spl s.B) R)).length ((flt R).drop (flt (com (spl s.B) R)).length)).2) := by
    unfold fxA rwT
    rw [if_pos hc]
    dsimp only
    by_cases h1 : k = some 0
    · rw [if_pos h1, if_pos h1]; rfl
    · rw [if_neg h1, if_neg h1]
      by_cases h2 : less k = some 0
      · rw [if_pos h2, if_pos h2]; rfl
      · rw [if_neg h2, if_neg h2]
        by_cases h3 : less (less k) = some 0
        · rw [if_pos h3, if_pos h3, List.length_drop]; rfl
        · rw [if_neg h3, if_neg h3]; rfl
  have hr : (rwT s k (flt (com (spl s.B) R)).length ((flt R).drop (flt (com (spl s.B) R)).length)).1 = 0 ∨ (rwT s k (flt (com (spl s.B) R)).length ((flt R).drop (flt (com (spl s.B) R)).length)).1 = 4 := by
    unfold rwT
    split
    · exact .inr rfl
    · split
      · exact .inr rfl
      · split
        · exact .inr rfl
        · exact .inl rfl
  rw [hf]
  refine ⟨?_, rfl⟩
  rcases hr with e | e <;> rw [e] <;> rfl
set_option maxRecDepth 100000 in
set_option maxHeartbeats 3200000 in
theorem align_any (h : Tps w q fu S T) (hf : FzO w fu k) {i : Nat} (hi : i < 3) (hv : (S i).live = true) {v : Value} {R : List (List Nat)} (hr : RRp (fun g => ¬ T g ∧ fu ≠ some g) w v R) (hrec : ∀ y ∈ R, Rec y) (hl : (flt R).length ≤ 65536) :
    Calls Try.prog 49 #[.pointer (some ⟨q i, 0, none⟩), v] w fun e w' => e = .returned (.int .i64 (if (fxA R (S i) k).1 = true then 0 else 4)) ∧ Ts w w' q fu (fxA R (S i) k).2.2 T (updT S i (fxA R (S i) k).2.1) := by
  have HB := hid (tp_bytes h hi hv)
  have HT := hid h
  have HF := hid hf
  have HR := hid hr
  have HREC : Hid (∀ y ∈ R, y.length < 256) := fun y hy => by have := hrec y hy; unfold Rec at this; omega
  have HLE := hid (And.intro hl (h.le i hi hv).1)
  have HI := hid (And.intro hi hv)
  have HRM := hid (flt_many R)
  obtain ⟨rr, RR⟩ : ∃ rr : Int, Hid ((if (fxA R (S i) k).1 = true then (0 : Int) else 4) = rr) := ⟨_, rfl⟩
  rw [RR.out]
  by_cases heq : (S i).B = flt R
  · have hfx : fxA R (S i) k = (true, S i, k) := by unfold fxA; rw [if_neg fun h => h.2 heq]
    have HX := hid hfx
    have HEQ : Hid (decide ((S i).B = flt R) = true) := decide_eq_true heq
    clear h hf hi hv hr hrec hl heq hfx
    go_enter Try.func49, Try.ntmps49
    go_wp2_with fail
    refine HB.out.mono ?_
    rintro e w1 ⟨a, c, rfl, hg⟩
    have HG := hid hg
    have HPK := hid (pack_any (HR.out.nxt HG.out.up).rr HREC.out (by have := HLE.out; have := HRM.out; omega) (by have := HLE.out; omega))
    clear hg
    go_wp2_with fail
    refine HPK.out.mono ?_
    rintro e w2 ⟨v2, rfl, ho, u2⟩
    obtain ⟨a2, c2, rfl, _, hsl, _, _⟩ := ho.sln (by have := HLE.out; omega)
    have HEB := hid (beq_any c c2 (HG.out.sl.nxt u2) hsl)
    rw [HEQ.out] at HEB
    have HU := hid (HG.out.up.trans u2)
    clear ho u2 hsl
    go_wp2_with fail
    refine HEB.out.mono ?_
    rintro e w3 ⟨rfl, rfl⟩
    go_wp2
    go_ret
    rw [← RR.out, HX.out, updT_id]
    exact ⟨rfl, Ts.nul HT.out HF.out HU.out⟩
  · have HNE := hid heq
    have HEQ : Hid (decide ((S i).B = flt R) = false) := decide_eq_false heq
    have HM := hid (com_le (spl (S i).B) R)
    have HC : Hid (R.take (com (spl (S i).B) R).length = com (spl (S i).B) R) := com_take2 _ _
    have HFX := hid (fxA_rw (k := k) hv heq)
    have HCF := hid (com_fits (S i).B R)
    have HSM : Hid ((spl (S i).B).length ≤ 65536) := by
      obtain ⟨t, ht⟩ := flt_spl (S i).B
      have := congrArg List.length ht
      have h1 := flt_many (spl (S i).B)
      have h2 := (h.le i hi hv).1
      rw [List.length_append] at this
      show _ ≤ _
      omega
    obtain ⟨m, M⟩ : ∃ m, Hid ((com (spl (S i).B) R).length = m) := ⟨_, rfl⟩
    rw [M.out] at HM HC
    rw [← HC.out] at HFX HCF
    rw [flt_drop] at HFX
    have HTL := hid (flt_drop_le R m)
    obtain ⟨pa, pc, rfl, hpc, hrr⟩ := hr
    obtain ⟨rn, RN⟩ : ∃ rn, Hid (R.length = rn) := ⟨_, rfl⟩
    have HPC := hid hpc
    rw [RN.out] at HR HPC HM ⊢
    clear hpc hrr
    clear h hf hi hv hrec hl heq
    go_enter Try.func49, Try.ntmps49
    go_wp2_with fail
    refine HB.out.mono ?_
    rintro e w1 ⟨a, c, rfl, hg⟩
    have HG := hid hg
    have HPK := hid (pack_any (HR.out.nxt HG.out.up).rr HREC.out (by have := HLE.out; have := HRM.out; omega) (by have := HLE.out; omega))
    clear hg
    go_wp2_with fail
    refine HPK.out.mono ?_
    rintro e w2 ⟨v2, rfl, ho, u2⟩
    obtain ⟨a2, c2, rfl, _, hsl, _, _⟩ := ho.sln (by have := HLE.out; omega)
    have HSL2 := hid (HG.out.sl.nxt u2)
    have HEB := hid (beq_any c c2 HSL2.out hsl)
    rw [HEQ.out] at HEB
    have HU := hid (HG.out.up.trans u2)
    have HSP := hid (split_any a _ c _ HSL2.out HG.out.cap (by have := HLE.out; omega))
    clear ho u2 hsl HPK HB
    go_wp2_with fail
    refine HEB.out.mono ?_
    rintro e w3 ⟨rfl, rfl⟩
    go_wp2_with fail
    refine HSP.out.mono ?_
    rintro e w4 ⟨v4, rfl, hrow, u4⟩
    have HU4 := hid (HU.out.trans u4)
    have HAL := hid (alike_any hrow.rr (HR.out.nxt HU4.out).rr (by have := HSM.out; have := HRM.out; have := HLE.out; omega))
    rw [M.out] at HAL
    clear hrow u4 HSP HEB
    go_wp2_with fail
    refine HAL.out.mono ?_
    rintro e w5 ⟨rfl, u5⟩
    have HU5 := hid (HU4.out.trans u5)
    clear u5 HAL
    have ht := rows_upto pa rn pc m (by have := HM.out.2; have := HPC.out; omega)
    have hd := rows_from pa rn pc m (by have := HM.out.2; have := HPC.out; omega)
    have hRd := HR.out.drop m (by have := HM.out.2; rw [RN.out]; exact this)
    have hRt := HR.out.take m (by have := HM.out.2; rw [RN.out]; exact this)
    generalize atOff pa m pc = qd at hd hRd
    generalize rn - m = dn at hd hRd
    generalize pc - m = dc at hd hRd
    obtain ⟨nA, NA⟩ : ∃ nA, Hid ((flt (R.take m)).length = nA) := ⟨_, rfl⟩
    obtain ⟨nB, NB⟩ : ∃ nB, Hid ((flt (R.drop m)).length = nB) := ⟨_, rfl⟩
    rw [NA.out] at HFX HCF HTL
    rw [NB.out] at HTL
    have HPA : Hid (∀ W, Up Nul w W → Calls Try.prog 42 #[.slice pa m pc] W fun e w' => ∃ aa ca, e = .returned (.slice aa nA ca) ∧ Up Nul w w' ∧ Up Nul W w') := fun W u => by
      refine (pack_any (hRt.nxt u).rr (fun y hy => HREC.out y (List.mem_of_mem_take hy)) (by rw [List.length_take]; have := HLE.out; have := HRM.out; omega) (by have := HLE.out; have := HTL.out; have := NA.out; omega)).mono ?_
      rintro e w' ⟨v', rfl, ho, u2⟩
      obtain ⟨x, c, rfl, _⟩ := ho.sln (by have := HLE.out; have := HTL.out; have := NA.out; omega)
      exact ⟨x, c, by rw [NA.out], u.trans u2, u2⟩
    have HPB : Hid (∀ W, Up Nul w W → Calls Try.prog 42 #[.slice qd dn dc] W fun e w' => ∃ ab cb, e = .returned (.slice ab nB cb) ∧ Up Nul w w' ∧ (nB ≤ cb ∧ Away T fu ab nB) ∧ ∀ W', Up Nul w' W' → SlN W' ab nB (flt (R.drop m))) := fun W u => by
      refine (pack_any (hRd.nxt u).rr (fun y hy => HREC.out y (List.mem_of_mem_drop hy)) (by rw [List.length_drop]; have := HLE.out; have := HRM.out; omega) (by have := HLE.out; have := HTL.out; have := NB.out; omega)).mono ?_
      rintro e w' ⟨v', rfl, ho, u2⟩
      obtain ⟨x, c, rfl, hxc, hsl, hnew, _⟩ := ho.sln (by have := HLE.out; have := HTL.out; have := NB.out; omega)
      rw [NB.out] at hxc hsl hnew ⊢
      refine ⟨x, c, rfl, u.trans u2, ⟨hxc, ?_⟩, fun W' u' => hsl.nxt u'⟩
      by_cases h0 : nB = 0
      · exact .inl h0
      · refine .inr fun y ey => ?_
        obtain ⟨g, o, e1, e2⟩ := hnew (by omega)
        rw [e1] at ey
        cases ey
        refine ⟨fun hg => ?_, fun e => ?_⟩
        · have h1 : g < w.heap.size := HT.out.lt _ hg
          have h2 : w.heap.size ≤ W.heap.size := u.size
          omega
        · have hz := HF.out
          rw [e] at hz
          have h1 : g < w.heap.size := Fz.lt hz
          have h2 : w.heap.size ≤ W.heap.size := u.size
          omega
    have HRW : Hid (∀ W ab cb, Up Nul w W → SlN W ab nB (flt (R.drop m)) → (nB ≤ cb ∧ Away T fu ab nB) → Calls Try.prog 47 #[.pointer (some ⟨q i, 0, none⟩), .int .i64 (nA : Nat), .slice ab nB cb] W fun e w' => e = .returned (.int .i64 rr) ∧ Ts w w' q fu (fxA R (S i) k).2.2 T (updT S i (fxA R (S i) k).2.1)) := fun W ab cb u hs hc => by
      refine (rewrite_any (HT.out.nxt u) (HF.out.up u fun _ _ h => h) HI.out.1 HI.out.2 nA HCF.out cb hs hc.1 (by have := HTL.out; have := HLE.out; omega) hc.2).mono ?_
      rintro e w' ⟨rfl, d⟩
      rw [← HFX.out.1, RR.out, ← HFX.out.2] at *
      exact ⟨rfl, d.pre u⟩
    clear hRd hRt HR HREC HC HM M
    go_wp2_with fail
    go_region_with (first
      | (go_at_call 42; (with_reducible refine (HPA.out _ (by first | exact HU5.out.drew | exact HU5.out | assumption)).mono ?_); rintro e wa ⟨aa, ca, rfl, ua, va⟩)
      | (go_at_call 42; (with_reducible refine (HPB.out _ (by first | exact HU5.out.drew | exact HU5.out | assumption)).mono ?_); rintro e wb ⟨ab, cb, rfl, ub, kb, fb⟩)
      | (go_at_call 47; (with_reducible refine (HRW.out _ _ _ (by assumption) (fb _ (by first | assumption | exact Up.refl _ _)) kb).mono ?_); rintro e wz ⟨rfl, d⟩))
    all_goals
      have HD := hid d
      clear d
      go_wp2
      go_ret
      exact ⟨rfl, HD.out⟩
end
end Go.Proofs.Ytencinajieicpaa
