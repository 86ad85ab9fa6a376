/- The program's Trio: Mend. -/
import Derived.Test.YtencinajieicpaaTrPQ
namespace Go.Proofs.Ytencinajieicpaa
open Go.RowKit
set_option linter.unusedVariables false

theorem frm_head (S : Nat → TS) (i : Nat) : frm S i = ((List.range 3).filter fun j => decide (¬ j = i) && (S j).live).head? := by
  unfold frm
  rw [List.head?_filter]
/-- Mend, as the walk meets it. -/
theorem rwT_mnd (s : TS) (k : Option Nat) (B : List Nat) : rwT s k 0 B = if k = some 0 then (4, s, k) else if less k = some 0 then (4, ⟨[], 0, true⟩, less k) else if less (less k) = some 0 then (4, ⟨B, B.length, true⟩, less (less k)) else (0, ⟨B, 0, true⟩, less (less k)) := by
  unfold rwT
  rw [List.take_zero, List.nil_append]
theorem mnd_rw {S : Nat → TS} {i j : Nat} (k : Option Nat) (hi : i < 3) (hv : (S i).live = true) (hj : frm S i = some j) : tMnd S k (i : Nat) = ((rwT (S i) k 0 (S j).B).1, updT S i (rwT (S i) k 0 (S j).B).2.1, (rwT (S i) k 0 (S j).B).2.2) := by
  unfold tMnd
  rw [if_neg (by rw [Int.toNat_natCast, hv]; simp; omega), Int.toNat_natCast, hj, rwT_mnd]
  dsimp only
  by_cases h1 : k = some 0
  · rw [if_pos h1, if_pos h1, updT_id]
  · rw [if_neg h1, if_neg h1]
    by_cases h2 : less k = some 0
    · rw [if_pos h2, if_pos h2]
    · rw [if_neg h2, if_neg h2]
      by_cases h3 : less (less k) = some 0
      · rw [if_pos h3, if_pos h3]
      · rw [if_neg h3, if_neg h3]
section
variable {w w' : World} {t : Nat} {q : Nat → Nat} {N : Nat} {fu k k' : Option Nat} {S S' : Nat → TS} {T T0 : Nat → Prop}
theorem ptr_mend_out (h : PQr w t q N fu S T) (hf : FzO w fu k) (x : Int) (hx : x < 0 ∨ 2 < x) : Calls Try.prog 17 #[.pointer (some ⟨t, 0, none⟩), .int .i64 x] w fun e w' => e = .returned (.int .i64 1) ∧ w' = w := by
  rcases hx with hx | hx
  · clear h hf
    go_enter Try.func17, Try.ntmps17
    go_wp2_with fail
    go_ret
    exact ⟨rfl, rfl⟩
  · have h1 : ¬ x < 0 := by omega
    have h2 : 3 ≤ x := by omega
    clear h hf hx
    go_enter Try.func17, Try.ntmps17
    go_wp2_with fail
    go_ret
    exact ⟨rfl, rfl⟩
set_option maxRecDepth 100000 in
set_option maxHeartbeats 3200000 in
theorem ptr_mend0 (h : PQr w t q N fu S T) (hf : FzO w fu k) : Calls Try.prog 17 #[.pointer (some ⟨t, 0, none⟩), .int .i64 0] w fun e w' =>
      e = .returned (.int .i64 (tMnd S k 0).1) ∧ Qd PQr w w' t q N fu (tMnd S k 0).2.2 T (tMnd S k 0).2.1 := by
  obtain ⟨hh, T0, hT, htn, hTT⟩ := h
  have HQ4 : Hid (∀ w' k' S', Ts w w' q fu k' T0 S' → Qd PQr w w' t q N fu k' T S') := fun w' k' S' d => trc_did hh hf htn hTT d
  have HT := hid hT
  have HF := hid hf
  have HH := hid (And.intro hh (trc_lt hh))
  obtain ⟨c0, c1, c2, c3, fr⟩ := trc_cells hh
  have HLI := hid (tp_live hT (i := 0) (by omega))
  obtain ⟨R, HRR⟩ : ∃ R : Ending → World → Prop, Hid (R = fun e w' => e = .returned (.int .i64 (tMnd S k 0).1) ∧ Qd PQr w w' t q N fu (tMnd S k 0).2.2 T (tMnd S k 0).2.1) := ⟨_, rfl⟩
  rw [← HRR.out]
  cases hv : (S 0).live with
  | false =>
    have ht : tMnd S k 0 = (1, S, k) := by
      unfold tMnd
      rw [if_pos (.inr (.inr hv))]
    rw [ht] at HRR
    rw [hv] at HLI
    clear hh hf hT htn hTT hv ht
    go_enter Try.func17, Try.ntmps17
    go_wp2_with fail
    refine HLI.out.mono ?_
    rintro e w1 ⟨rfl, u⟩
    have HU := hid u
    clear u
    go_wp2_with fail
    rw [HRR.out]
    exact ⟨rfl, HQ4.out _ _ _ (Ts.nul HT.out HF.out HU.out)⟩
  | true =>
    have HV := hid hv
    have HLV := hid fun W u => living_but (w := W) (hT.nxt u) 0
    have HFH := hid (frm_head S 0)
    have HMN := hid fun j hj => mnd_rw (S := S) (i := 0) (j := j) k (by omega) hv hj
    rw [hv] at HLI
    have HFM : Hid (∀ j, j ∈ ((List.range 3).filter fun j => decide (¬ j = 0) && (S j).live) → j < 3 ∧ (S j).live = true) := fun j hj => by
      have h := List.mem_filter.1 hj
      refine ⟨List.mem_range.1 h.1, ?_⟩
      have h2 := h.2
      cases h3 : (S j).live
      · rw [h3] at h2; simp at h2
      · rfl
    have HM1 : Hid (frm S 0 = none → tMnd S k 0 = (8, S, k)) := fun e => by
      unfold tMnd
      rw [if_neg (by simp [hv])]
      show (match frm S 0 with | none => _ | some j => _) = _
      rw [e]
    generalize ((List.range 3).filter fun j => decide (¬ j = 0) && (S j).live) = L at HLV HFH HFM
    simp only at HLV
    clear hh hf hT htn hTT hv
    go_enter Try.func17, Try.ntmps17
    go_wp2_with fail
    refine HLI.out.mono ?_
    rintro e w1 ⟨rfl, u⟩
    have HU := hid u
    have hh1 := (u.block t HH.out.2 id).trans HH.out.1
    obtain ⟨d0, d1, d2, d3, dfr⟩ := trc_cells hh1
    have hb : ∀ o, Up Nul w1 (w1.alloc o) := fun o => (Up.refl Nul w1).alloc o
    have tl := trc_lt hh1
    have e0 : ∀ o, (w1.alloc o).cell? ⟨t, 0, none⟩ = some (.pointer (some ⟨q 0, 0, none⟩)) := fun o => ((hb o).cell (p := ⟨t, 0, none⟩) tl id).trans d0
    have e1 : ∀ o, (w1.alloc o).cell? ⟨t, 1, none⟩ = some (.pointer (some ⟨q 1, 0, none⟩)) := fun o => ((hb o).cell (p := ⟨t, 1, none⟩) tl id).trans d1
    have e2 : ∀ o, (w1.alloc o).cell? ⟨t, 2, none⟩ = some (.pointer (some ⟨q 2, 0, none⟩)) := fun o => ((hb o).cell (p := ⟨t, 2, none⟩) tl id).trans d2
    have HUB := hid hb
    have HTL := hid tl
    clear u hh1 hb c0 c1 c2 c3 fr tl HLI
    go_wp2_with fail
    have HUC := hid (HU.out.trans (HUB.out (.cells #[.pointer none, .pointer (some ⟨q 1, 0, none⟩), .pointer (some ⟨q 2, 0, none⟩)] 27)))
    have HLW := hid (HLV.out _ HUC.out)
    generalize World.alloc w1 _ = w2 at HUC HLW ⊢
    refine HLW.out.mono ?_
    rintro e w3 ⟨v, rfl, hp, u⟩
    have HU3 := hid (HUC.out.trans u)
    have HP := hid hp
    obtain ⟨va, vc, rfl, _⟩ := hp
    obtain ⟨n, NN⟩ : ∃ n, Hid (L.length = n) := ⟨_, rfl⟩
    rw [ptrs_length, NN.out] at HP ⊢
    clear u HLW HLV HUC HUB
    cases L with
    | nil =>
      obtain rfl : 0 = n := NN.out
      have hm := HM1.out HFH.out
      rw [hm] at HRR
      clear hm
      go_wp2_with fail
      rw [HRR.out]
      exact ⟨rfl, HQ4.out _ _ _ (Ts.nul HT.out HF.out HU3.out)⟩
    | cons j L =>
      have hm := HMN.out j HFH.out
      rw [show ((0 : Nat) : Int) = 0 from rfl] at hm
      rw [hm] at HRR
      obtain ⟨hj, hjv⟩ := HFM.out j (List.mem_cons_self ..)
      have HBY := hid (tp_bytes (HT.out.nxt HU3.out) hj hjv)
      have HBL := hid (HT.out.le j hj hjv).1
      obtain ⟨a', c', e', hrow⟩ := HP.out
      have hn1 : 0 < n := by rw [← NN.out]; simp
      rw [ptrs_length, NN.out] at e' hrow
      injection e' with e1' e2' e3'
      subst e1'
      obtain ⟨g, rfl, hgl, hgp, hcell⟩ := hrow.resolve_left (by omega)
      have x1 := hcell 0 _ (ptrs_at (t := 0) (by simp))
      have x1 : w3.cell? ⟨g, 0, none⟩ = some (.pointer (some ⟨q j, 0, none⟩)) := x1
      have i1 : ((n : Int) == 0) = false := by simp; omega
      have i2 : (0 : Int) < (n : Int) := by omega
      have HN1 := hid hn1
      clear hm hj hjv hrow hgl hgp hcell hn1 e2' e3'
      go_wp2_with fail
      refine HBY.out.mono ?_
      rintro e w4 ⟨ab, cb, rfl, hg⟩
      have HU4 := hid (HU3.out.trans hg.up)
      have HG := hid hg
      have hh4 := (HU4.out.block t HH.out.2 id).trans HH.out.1
      obtain ⟨f0, f1, f2, f3, ffr⟩ := trc_cells hh4
      have HAY : Hid (Away T0 fu ab (S j).B.length) := by
        by_cases h0 : (S j).B.length = 0
        · exact .inl h0
        · refine .inr fun y ey => ?_
          obtain ⟨g2, o, e5, e6⟩ := HG.out.new (by omega)
          rw [e5] at ey
          cases ey
          have h5 := HU3.out.size
          refine ⟨fun hg2 => ?_, fun e => ?_⟩
          · have h6 := HT.out.lt g2 hg2
            omega
          · have hz := HF.out
            rw [e] at hz
            have h6 := Fz.lt hz
            dsimp only at h6
            omega
      have HRWW := hid (rewrite_any (HT.out.nxt HU4.out) (HF.out.up HU4.out fun _ _ h => h) (k := k) (i := 0) (by omega) HV.out 0 (Nat.zero_le _) cb HG.out.sl HG.out.cap (by have := HBL.out; omega) HAY.out)
      clear hg hh4 HBY d0 d1 d2 d3 dfr e0 e1 e2 x1
      go_wp2_with fail
      refine HRWW.out.mono ?_
      rintro e w5 ⟨rfl, d⟩
      have HD := hid (d.pre HU4.out)
      clear d HRWW
      go_wp2_with fail
      rw [HRR.out]
      exact ⟨rfl, HQ4.out _ _ _ HD.out⟩
set_option maxRecDepth 100000 in
set_option maxHeartbeats 3200000 in
theorem ptr_mend1 (h : PQr w t q N fu S T) (hf : FzO w fu k) : Calls Try.prog 17 #[.pointer (some ⟨t, 0, none⟩), .int .i64 1] w fun e w' =>
      e = .returned (.int .i64 (tMnd S k 1).1) ∧ Qd PQr w w' t q N fu (tMnd S k 1).2.2 T (tMnd S k 1).2.1 := by
  obtain ⟨hh, T0, hT, htn, hTT⟩ := h
  have HQ4 : Hid (∀ w' k' S', Ts w w' q fu k' T0 S' → Qd PQr w w' t q N fu k' T S') := fun w' k' S' d => trc_did hh hf htn hTT d
  have HT := hid hT
  have HF := hid hf
  have HH := hid (And.intro hh (trc_lt hh))
  obtain ⟨c0, c1, c2, c3, fr⟩ := trc_cells hh
  have HLI := hid (tp_live hT (i := 1) (by omega))
  obtain ⟨R, HRR⟩ : ∃ R : Ending → World → Prop, Hid (R = fun e w' => e = .returned (.int .i64 (tMnd S k 1).1) ∧ Qd PQr w w' t q N fu (tMnd S k 1).2.2 T (tMnd S k 1).2.1) := ⟨_, rfl⟩
  rw [← HRR.out]
  cases hv : (S 1).live with
  | false =>
    have ht : tMnd S k 1 = (1, S, k) := by
      unfold tMnd
      rw [if_pos (.inr (.inr hv))]
    rw [ht] at HRR
    rw [hv] at HLI
    clear hh hf hT htn hTT hv ht
    go_enter Try.func17, Try.ntmps17
    go_wp2_with fail
    refine HLI.out.mono ?_
    rintro e w1 ⟨rfl, u⟩
    have HU := hid u
    clear u
    go_wp2_with fail
    rw [HRR.out]
    exact ⟨rfl, HQ4.out _ _ _ (Ts.nul HT.out HF.out HU.out)⟩
  | true =>
    have HV := hid hv
    have HLV := hid fun W u => living_but (w := W) (hT.nxt u) 1
    have HFH := hid (frm_head S 1)
    have HMN := hid fun j hj => mnd_rw (S := S) (i := 1) (j := j) k (by omega) hv hj
    rw [hv] at HLI
    have HFM : Hid (∀ j, j ∈ ((List.range 3).filter fun j => decide (¬ j = 1) && (S j).live) → j < 3 ∧ (S j).live = true) := fun j hj => by
      have h := List.mem_filter.1 hj
      refine ⟨List.mem_range.1 h.1, ?_⟩
      have h2 := h.2
      cases h3 : (S j).live
      · rw [h3] at h2; simp at h2
      · rfl
    have HM1 : Hid (frm S 1 = none → tMnd S k 1 = (8, S, k)) := fun e => by
      unfold tMnd
      rw [if_neg (by simp [hv])]
      show (match frm S 1 with | none => _ | some j => _) = _
      rw [e]
    generalize ((List.range 3).filter fun j => decide (¬ j = 1) && (S j).live) = L at HLV HFH HFM
    simp only at HLV
    clear hh hf hT htn hTT hv
    go_enter Try.func17, Try.ntmps17
    go_wp2_with fail
    refine HLI.out.mono ?_
    rintro e w1 ⟨rfl, u⟩
    have HU := hid u
    have hh1 := (u.block t HH.out.2 id).trans HH.out.1
    obtain ⟨d0, d1, d2, d3, dfr⟩ := trc_cells hh1
    have hb : ∀ o, Up Nul w1 (w1.alloc o) := fun o => (Up.refl Nul w1).alloc o
    have tl := trc_lt hh1
    have e0 : ∀ o, (w1.alloc o).cell? ⟨t, 0, none⟩ = some (.pointer (some ⟨q 0, 0, none⟩)) := fun o => ((hb o).cell (p := ⟨t, 0, none⟩) tl id).trans d0
    have e1 : ∀ o, (w1.alloc o).cell? ⟨t, 1, none⟩ = some (.pointer (some ⟨q 1, 0, none⟩)) := fun o => ((hb o).cell (p := ⟨t, 1, none⟩) tl id).trans d1
    have e2 : ∀ o, (w1.alloc o).cell? ⟨t, 2, none⟩ = some (.pointer (some ⟨q 2, 0, none⟩)) := fun o => ((hb o).cell (p := ⟨t, 2, none⟩) tl id).trans d2
    have HUB := hid hb
    have HTL := hid tl
    clear u hh1 hb c0 c1 c2 c3 fr tl HLI
    go_wp2_with fail
    have HUC := hid (HU.out.trans (HUB.out (.cells #[.pointer (some ⟨q 0, 0, none⟩), .pointer none, .pointer (some ⟨q 2, 0, none⟩)] 27)))
    have HLW := hid (HLV.out _ HUC.out)
    generalize World.alloc w1 _ = w2 at HUC HLW ⊢
    refine HLW.out.mono ?_
    rintro e w3 ⟨v, rfl, hp, u⟩
    have HU3 := hid (HUC.out.trans u)
    have HP := hid hp
    obtain ⟨va, vc, rfl, _⟩ := hp
    obtain ⟨n, NN⟩ : ∃ n, Hid (L.length = n) := ⟨_, rfl⟩
    rw [ptrs_length, NN.out] at HP ⊢
    clear u HLW HLV HUC HUB
    cases L with
    | nil =>
      obtain rfl : 0 = n := NN.out
      have hm := HM1.out HFH.out
      rw [hm] at HRR
      clear hm
      go_wp2_with fail
      rw [HRR.out]
      exact ⟨rfl, HQ4.out _ _ _ (Ts.nul HT.out HF.out HU3.out)⟩
    | cons j L =>
      have hm := HMN.out j HFH.out
      rw [show ((1 : Nat) : Int) = 1 from rfl] at hm
      rw [hm] at HRR
      obtain ⟨hj, hjv⟩ := HFM.out j (List.mem_cons_self ..)
      have HBY := hid (tp_bytes (HT.out.nxt HU3.out) hj hjv)
      have HBL := hid (HT.out.le j hj hjv).1
      obtain ⟨a', c', e', hrow⟩ := HP.out
      have hn1 : 0 < n := by rw [← NN.out]; simp
      rw [ptrs_length, NN.out] at e' hrow
      injection e' with e1' e2' e3'
      subst e1'
      obtain ⟨g, rfl, hgl, hgp, hcell⟩ := hrow.resolve_left (by omega)
      have x1 := hcell 0 _ (ptrs_at (t := 0) (by simp))
      have x1 : w3.cell? ⟨g, 0, none⟩ = some (.pointer (some ⟨q j, 0, none⟩)) := x1
      have i1 : ((n : Int) == 0) = false := by simp; omega
      have i2 : (0 : Int) < (n : Int) := by omega
      have HN1 := hid hn1
      clear hm hj hjv hrow hgl hgp hcell hn1 e2' e3'
      go_wp2_with fail
      refine HBY.out.mono ?_
      rintro e w4 ⟨ab, cb, rfl, hg⟩
      have HU4 := hid (HU3.out.trans hg.up)
      have HG := hid hg
      have hh4 := (HU4.out.block t HH.out.2 id).trans HH.out.1
      obtain ⟨f0, f1, f2, f3, ffr⟩ := trc_cells hh4
      have HAY : Hid (Away T0 fu ab (S j).B.length) := by
        by_cases h0 : (S j).B.length = 0
        · exact .inl h0
        · refine .inr fun y ey => ?_
          obtain ⟨g2, o, e5, e6⟩ := HG.out.new (by omega)
          rw [e5] at ey
          cases ey
          have h5 := HU3.out.size
          refine ⟨fun hg2 => ?_, fun e => ?_⟩
          · have h6 := HT.out.lt g2 hg2
            omega
          · have hz := HF.out
            rw [e] at hz
            have h6 := Fz.lt hz
            dsimp only at h6
            omega
      have HRWW := hid (rewrite_any (HT.out.nxt HU4.out) (HF.out.up HU4.out fun _ _ h => h) (k := k) (i := 1) (by omega) HV.out 0 (Nat.zero_le _) cb HG.out.sl HG.out.cap (by have := HBL.out; omega) HAY.out)
      clear hg hh4 HBY d0 d1 d2 d3 dfr e0 e1 e2 x1
      go_wp2_with fail
      refine HRWW.out.mono ?_
      rintro e w5 ⟨rfl, d⟩
      have HD := hid (d.pre HU4.out)
      clear d HRWW
      go_wp2_with fail
      rw [HRR.out]
      exact ⟨rfl, HQ4.out _ _ _ HD.out⟩
set_option maxRecDepth 100000 in
set_option maxHeartbeats 3200000 in
theorem ptr_mend2 (h : PQr w t q N fu S T) (hf : FzO w fu k) : Calls Try.prog 17 #[.pointer (some ⟨t, 0, none⟩), .int .i64 2] w fun e w' =>
      e = .returned (.int .i64 (tMnd S k 2).1) ∧ Qd PQr w w' t q N fu (tMnd S k 2).2.2 T (tMnd S k 2).2.1 := by
  obtain ⟨hh, T0, hT, htn, hTT⟩ := h
  have HQ4 : Hid (∀ w' k' S', Ts w w' q fu k' T0 S' → Qd PQr w w' t q N fu k' T S') := fun w' k' S' d => trc_did hh hf htn hTT d
  have HT := hid hT
  have HF := hid hf
  have HH := hid (And.intro hh (trc_lt hh))
  obtain ⟨c0, c1, c2, c3, fr⟩ := trc_cells hh
  have HLI := hid (tp_live hT (i := 2) (by omega))
  obtain ⟨R, HRR⟩ : ∃ R : Ending → World → Prop, Hid (R = fun e w' => e = .returned (.int .i64 (tMnd S k 2).1) ∧ Qd PQr w w' t q N fu (tMnd S k 2).2.2 T (tMnd S k 2).2.1) := ⟨_, rfl⟩
  rw [← HRR.out]
  cases hv : (S 2).live with
  | false =>
    have ht : tMnd S k 2 = (1, S, k) := by
      unfold tMnd
      rw [if_pos (.inr (.inr hv))]
    rw [ht] at HRR
    rw [hv] at HLI
    clear hh hf hT htn hTT hv ht
    go_enter Try.func17, Try.ntmps17
    go_wp2_with fail
    refine HLI.out.mono ?_
    rintro e w1 ⟨rfl, u⟩
    have HU := hid u
    clear u
    go_wp2_with fail
    rw [HRR.out]
    exact ⟨rfl, HQ4.out _ _ _ (Ts.nul HT.out HF.out HU.out)⟩
  | true =>
    have HV := hid hv
    have HLV := hid fun W u => living_but (w := W) (hT.nxt u) 2
    have HFH := hid (frm_head S 2)
    have HMN := hid fun j hj => mnd_rw (S := S) (i := 2) (j := j) k (by omega) hv hj
    rw [hv] at HLI
    have HFM : Hid (∀ j, j ∈ ((List.range 3).filter fun j => decide (¬ j = 2) && (S j).live) → j < 3 ∧ (S j).live = true) := fun j hj => by
      have h := List.mem_filter.1 hj
      refine ⟨List.mem_range.1 h.1, ?_⟩
      have h2 := h.2
      cases h3 : (S j).live
      · rw [h3] at h2; simp at h2
      · rfl
    have HM1 : Hid (frm S 2 = none → tMnd S k 2 = (8, S, k)) := fun e => by
      unfold tMnd
      rw [if_neg (by simp [hv])]
      show (match frm S 2 with | none => _ | some j => _) = _
      rw [e]
    generalize ((List.range 3).filter fun j => decide (¬ j = 2) && (S j).live) = L at HLV HFH HFM
    simp only at HLV
    clear hh hf hT htn hTT hv
    go_enter Try.func17, Try.ntmps17
    go_wp2_with fail
    refine HLI.out.mono ?_
    rintro e w1 ⟨rfl, u⟩
    have HU := hid u
    have hh1 := (u.block t HH.out.2 id).trans HH.out.1
    obtain ⟨d0, d1, d2, d3, dfr⟩ := trc_cells hh1
    have hb : ∀ o, Up Nul w1 (w1.alloc o) := fun o => (Up.refl Nul w1).alloc o
    have tl := trc_lt hh1
    have e0 : ∀ o, (w1.alloc o).cell? ⟨t, 0, none⟩ = some (.pointer (some ⟨q 0, 0, none⟩)) := fun o => ((hb o).cell (p := ⟨t, 0, none⟩) tl id).trans d0
    have e1 : ∀ o, (w1.alloc o).cell? ⟨t, 1, none⟩ = some (.pointer (some ⟨q 1, 0, none⟩)) := fun o => ((hb o).cell (p := ⟨t, 1, none⟩) tl id).trans d1
    have e2 : ∀ o, (w1.alloc o).cell? ⟨t, 2, none⟩ = some (.pointer (some ⟨q 2, 0, none⟩)) := fun o => ((hb o).cell (p := ⟨t, 2, none⟩) tl id).trans d2
    have HUB := hid hb
    have HTL := hid tl
    clear u hh1 hb c0 c1 c2 c3 fr tl HLI
    go_wp2_with fail
    have HUC := hid (HU.out.trans (HUB.out (.cells #[.pointer (some ⟨q 0, 0, none⟩), .pointer (some ⟨q 1, 0, none⟩), .pointer none] 27)))
    have HLW := hid (HLV.out _ HUC.out)
    generalize World.alloc w1 _ = w2 at HUC HLW ⊢
    refine HLW.out.mono ?_
    rintro e w3 ⟨v, rfl, hp, u⟩
    have HU3 := hid (HUC.out.trans u)
    have HP := hid hp
    obtain ⟨va, vc, rfl, _⟩ := hp
    obtain ⟨n, NN⟩ : ∃ n, Hid (L.length = n) := ⟨_, rfl⟩
    rw [ptrs_length, NN.out] at HP ⊢
    clear u HLW HLV HUC HUB
    cases L with
    | nil =>
      obtain rfl : 0 = n := NN.out
      have hm := HM1.out HFH.out
      rw [hm] at HRR
      clear hm
      go_wp2_with fail
      rw [HRR.out]
      exact ⟨rfl, HQ4.out _ _ _ (Ts.nul HT.out HF.out HU3.out)⟩
    | cons j L =>
      have hm := HMN.out j HFH.out
      rw [show ((2 : Nat) : Int) = 2 from rfl] at hm
      rw [hm] at HRR
      obtain ⟨hj, hjv⟩ := HFM.out j (List.mem_cons_self ..)
      have HBY := hid (tp_bytes (HT.out.nxt HU3.out) hj hjv)
      have HBL := hid (HT.out.le j hj hjv).1
      obtain ⟨a', c', e', hrow⟩ := HP.out
      have hn1 : 0 < n := by rw [← NN.out]; simp
      rw [ptrs_length, NN.out] at e' hrow
      injection e' with e1' e2' e3'
      subst e1'
      obtain ⟨g, rfl, hgl, hgp, hcell⟩ := hrow.resolve_left (by omega)
      have x1 := hcell 0 _ (ptrs_at (t := 0) (by simp))
      have x1 : w3.cell? ⟨g, 0, none⟩ = some (.pointer (some ⟨q j, 0, none⟩)) := x1
      have i1 : ((n : Int) == 0) = false := by simp; omega
      have i2 : (0 : Int) < (n : Int) := by omega
      have HN1 := hid hn1
      clear hm hj hjv hrow hgl hgp hcell hn1 e2' e3'
      go_wp2_with fail
      refine HBY.out.mono ?_
      rintro e w4 ⟨ab, cb, rfl, hg⟩
      have HU4 := hid (HU3.out.trans hg.up)
      have HG := hid hg
      have hh4 := (HU4.out.block t HH.out.2 id).trans HH.out.1
      obtain ⟨f0, f1, f2, f3, ffr⟩ := trc_cells hh4
      have HAY : Hid (Away T0 fu ab (S j).B.length) := by
        by_cases h0 : (S j).B.length = 0
        · exact .inl h0
        · refine .inr fun y ey => ?_
          obtain ⟨g2, o, e5, e6⟩ := HG.out.new (by omega)
          rw [e5] at ey
          cases ey
          have h5 := HU3.out.size
          refine ⟨fun hg2 => ?_, fun e => ?_⟩
          · have h6 := HT.out.lt g2 hg2
            omega
          · have hz := HF.out
            rw [e] at hz
            have h6 := Fz.lt hz
            dsimp only at h6
            omega
      have HRWW := hid (rewrite_any (HT.out.nxt HU4.out) (HF.out.up HU4.out fun _ _ h => h) (k := k) (i := 2) (by omega) HV.out 0 (Nat.zero_le _) cb HG.out.sl HG.out.cap (by have := HBL.out; omega) HAY.out)
      clear hg hh4 HBY d0 d1 d2 d3 dfr e0 e1 e2 x1
      go_wp2_with fail
      refine HRWW.out.mono ?_
      rintro e w5 ⟨rfl, d⟩
      have HD := hid (d.pre HU4.out)
      clear d HRWW
      go_wp2_with fail
      rw [HRR.out]
      exact ⟨rfl, HQ4.out _ _ _ HD.out⟩
theorem ptr_mend (h : PQr w t q N fu S T) (hf : FzO w fu k) (x : Int) : Calls Try.prog 17 #[.pointer (some ⟨t, 0, none⟩), .int .i64 x] w fun e w' =>
      e = .returned (.int .i64 (tMnd S k x).1) ∧ Qd PQr w w' t q N fu (tMnd S k x).2.2 T (tMnd S k x).2.1 := by
  by_cases hx : x < 0 ∨ 2 < x
  · have ht : tMnd S k x = (1, S, k) := by
      unfold tMnd
      rw [if_pos (hx.imp id .inl)]
    rw [ht]
    refine (ptr_mend_out h hf x hx).mono ?_
    rintro e w' ⟨rfl, rfl⟩
    obtain ⟨hh, T0, hT, htn, hTT⟩ := h
    exact ⟨rfl, trc_did hh hf htn hTT (Ts.refl hT hf)⟩
  · obtain rfl | rfl | rfl : x = 0 ∨ x = 1 ∨ x = 2 := by omega
    · exact ptr_mend0 h hf
    · exact ptr_mend1 h hf
    · exact ptr_mend2 h hf
end
end Go.Proofs.Ytencinajieicpaa
