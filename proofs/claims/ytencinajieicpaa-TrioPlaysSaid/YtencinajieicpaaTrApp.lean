/- The program's Trio: Append. -/
import Derived.Test.YtencinajieicpaaTrPQ
import Derived.Test.YtencinajieicpaaTrPack
namespace Go.Proofs.Ytencinajieicpaa
open Go.RowKit
set_option linter.unusedVariables false

section
variable {w w' : World} {t : Nat} {q : Nat → Nat} {N : Nat} {fu k k' : Option Nat} {S S' : Nat → TS} {T T0 : Nat → Prop}
theorem nlv_three (S : Nat → TS) : nlv S ≤ 3 := by unfold nlv one; split <;> split <;> split <;> omega
theorem wrS_two (z : List Nat) (S : Nat → TS) (k : Option Nat) : (wrS z S k).1 = 0 ∨ (wrS z S k).1 = 4 := by
  unfold wrS
  generalize goL (apA z) S k (lvs S) = x
  obtain ⟨b, S1, k1⟩ := x
  cases b with
  | false => exact .inr rfl
  | true =>
    dsimp only
    generalize goL syA S1 k1 (lvs S) = x
    obtain ⟨b, S2, k2⟩ := x
    cases b with
    | false => exact .inr rfl
    | true => exact .inl rfl
set_option maxRecDepth 100000 in
set_option maxHeartbeats 3200000 in
theorem ptr_append (h : PQr w t q N fu S T) (hf : FzO w fu k) (hN : N ≤ 1000000) (a : Option Addr) (l c : Nat) (z : List Nat) (hz : SlN w a l z) (hc : l ≤ c) (hl : l ≤ 100000) (hn : l = 0 ∨ ∀ x, a = some x → ¬ T x.block ∧ fu ≠ some x.block) :
    Calls Try.prog 14 #[.pointer (some ⟨t, 0, none⟩), .slice a l c] w fun e w' =>
      e = .returned (.int .i64 (tApp S k z).1) ∧ Qd PQr w w' t q (if (tApp S k z).1 = 0 then N + 1 else N) fu (tApp S k z).2.2 T (tApp S k z).2.1 := by
  obtain ⟨hh, T0, hT, htn, hTT⟩ := h
  have HH := hid hh
  have HF := hid hf
  have HT := hid hT
  have HTN := hid (And.intro htn hTT)
  have HZ := hid hz
  have HFI := hid fun W => fits_any (l : Int) W
  obtain ⟨c0, c1, c2, c3, fr⟩ := trc_cells hh
  by_cases h1 : l < 1 ∨ 250 < l
  · have ht : tApp S k z = (1, S, k) := by unfold tApp; rw [if_pos (by rw [hz.len]; exact h1)]
    rw [ht]
    have HQ : Hid (∀ w', Up Nul w w' → Qd PQr w w' t q N fu k T S) := fun w' u => trc_did HH.out HF.out HTN.out.1 HTN.out.2 (Ts.nul HT.out HF.out u)
    rw [decide_eq_false (by omega)] at HFI
    suffices H : Calls Try.prog 14 #[.pointer (some ⟨t, 0, none⟩), .slice a l c] w (fun e w' => e = .returned (.int .i64 1) ∧ w' = w) from H.mono fun e w' h => ⟨h.1, by rw [h.2]; exact HQ.out _ (Up.refl _ _)⟩
    clear hh hf hT htn hTT hz hc hl hn h1 ht hN HQ
    go_enter Try.func14, Try.ntmps14
    go_wp2_with fail
    refine (HFI.out _).mono ?_
    rintro e w1 ⟨rfl, rfl⟩
    go_wp2
    go_ret
    exact ⟨rfl, rfl⟩
  have hg1 : ¬ (z.length < 1 ∨ 250 < z.length) := by rw [hz.len]; exact h1
  rw [decide_eq_true (by omega)] at HFI
  have HLV := hid (living_tps hT)
  unfold tri at HLV
  have HLL : Hid ((lvs S).length = nlv S) := lvs_length S
  have h3 := nlv_three S
  by_cases h2 : nlv S < 2
  · have ht : tApp S k z = (8, S, k) := by unfold tApp; rw [if_neg hg1, if_pos h2]
    rw [ht]
    have HQ : Hid (∀ w', Up Nul w w' → Qd PQr w w' t q N fu k T S) := fun w' u => trc_did HH.out HF.out HTN.out.1 HTN.out.2 (Ts.nul HT.out HF.out u)
    have H2 := hid h2
    suffices H : Calls Try.prog 14 #[.pointer (some ⟨t, 0, none⟩), .slice a l c] w (fun e w' => e = .returned (.int .i64 8) ∧ Up Nul w w') from H.mono fun e w' h => ⟨h.1, HQ.out _ h.2⟩
    clear hh hf hT htn hTT hz hc hl hn h1 ht hN HQ hg1 h3 h2
    go_enter Try.func14, Try.ntmps14
    go_wp2_with fail
    refine (HFI.out _).mono ?_
    rintro e w1 ⟨rfl, rfl⟩
    go_wp2_with fail
    refine HLV.out.mono ?_
    rintro e w2 ⟨v, rfl, hp, u⟩
    obtain ⟨va, vc, rfl, _⟩ := hp
    rw [ptrs_length, HLL.out]
    have HU := hid u
    have i1 : (nlv S : Int) < 2 := by have := H2.out; omega
    clear u
    go_wp2
    go_ret
    exact ⟨rfl, HU.out⟩
  by_cases hfl : fullT S (z.length + 1) = true
  · have ht : tApp S k z = (7, S, k) := by unfold tApp; rw [if_neg hg1, if_neg h2, if_pos hfl]
    rw [ht]
    have HQ : Hid (∀ w', Up Nul w w' → Qd PQr w w' t q N fu k T S) := fun w' u => trc_did HH.out HF.out HTN.out.1 HTN.out.2 (Ts.nul HT.out HF.out u)
    have H2 := hid (And.intro h2 h3)
    have HAN : Hid ((lvs S).any (fun i => decide (65536 < (S i).B.length + (l + 1))) = true) := by
      show _ = _
      rw [← hz.len, ← fullT_any]; exact hfl
    have H1 := hid h1
    have HM : Hid (∀ i, i ∈ lvs S → i < 3 ∧ (S i).live = true) := fun i => lvs_mem
    suffices H : Calls Try.prog 14 #[.pointer (some ⟨t, 0, none⟩), .slice a l c] w (fun e w' => e = .returned (.int .i64 7) ∧ Up Nul w w') from H.mono fun e w' h => ⟨h.1, HQ.out _ h.2⟩
    clear hh hf hT htn hTT hz hc hl hn h1 ht hN HQ hg1 h3 h2 hfl
    go_enter Try.func14, Try.ntmps14
    go_wp2_with fail
    refine (HFI.out _).mono ?_
    rintro e w1 ⟨rfl, rfl⟩
    go_wp2_with fail
    refine HLV.out.mono ?_
    rintro e w2 ⟨v, rfl, hp, u⟩
    have HP := hid hp
    have HU := hid u
    obtain ⟨va, vc, rfl, _⟩ := hp
    rw [ptrs_length, HLL.out] at HP ⊢
    have i1 : ¬ (nlv S : Int) < 2 := by have := H2.out; omega
    have hua : Up Nul w2 (w2.alloc (.cells #[.slice a l c] 30)) := (Up.refl Nul w2).alloc _
    have HUA := hid (HU.out.trans hua)
    have hrr : RRs (w2.alloc (.cells #[.slice a l c] 30)) (.slice (some ⟨w2.heap.size, 0, none⟩) 1 1) [z] :=
      ⟨_, _, rfl, .inr ⟨w2.heap.size, 0, rfl, by simp, fun i y hi => by
        match i, hi with
        | 0, hi =>
          cases hi
          rw [HZ.out.len]
          exact ⟨a, c, World.cell?_alloc_new w2 _ _ 0, HZ.out.nxt HUA.out⟩⟩⟩
    have HPK := hid (pack_any hrr (fun y hy => by rw [List.mem_singleton.1 hy, HZ.out.len]; have := H1.out; omega) (by simp) (by rw [flt_one, enc_length, HZ.out.len]; have := H1.out; omega))
    clear u hua hrr
    go_wp2_with fail
    refine HPK.out.mono ?_
    rintro e w4 ⟨vb, rfl, ho, u4⟩
    obtain ⟨ba, bc, rfl, hbc, hbs, hbn, _⟩ := ho.sln (by rw [flt_one, enc_length, HZ.out.len]; have := H1.out; omega)
    have hlen : (flt [z]).length = l + 1 := by rw [flt_one, enc_length, HZ.out.len]
    rw [hlen] at hbs hbc ⊢
    have HU4 := hid (HUA.out.trans u4)
    have hua : Up Nul w4 (w4.alloc (.cells #[.slice ba (l + 1) bc] 30)) := (Up.refl Nul w4).alloc _
    have HU5 := hid (HU4.out.trans hua)
    have HP5 := hid (((HP.out.nxt ((Up.refl Nul w2).alloc (.cells #[.slice a l c] 30))).nxt u4).nxt hua)
    have hcell := World.cell?_alloc_new w4 #[.slice ba (l + 1) bc] 30 0
    have hsz : w4.heap.size < (w4.alloc (.cells #[.slice ba (l + 1) bc] 30)).heap.size := by simp
    have HCO := hid (tcont_any HP5.out (fun i => decide (65536 < (S i).B.length + (l + 1))) w4.heap.size (fun i hi W u => full_any (HT.out.nxt (HU5.out.trans u)) (HM.out i hi).1 (HM.out i hi).2 ((u.cell (p := ⟨w4.heap.size, 0, none⟩) hsz id).trans hcell) (Nat.lt_of_lt_of_le hsz u.size) (by have := H1.out; omega)) (by rw [HLL.out]; have := H2.out; omega))
    rw [HAN.out] at HCO
    clear ho u4 hbs hbn hbc hua hcell hsz hlen
    go_wp2_with fail
    refine HCO.out.mono ?_
    rintro e w6 ⟨rfl, u6⟩
    have HU6 := hid (HU5.out.trans u6)
    clear u6
    go_wp2
    go_ret
    exact ⟨rfl, HU6.out⟩
  · have ht := app_wrS (S := S) (z := z) k hg1 h2 (eq_false_of_ne_true hfl)
    have HQ4 : Hid (∀ w' k' S', Ts w w' q fu k' T0 S' → Qd PQr w w' t q N fu k' T S') := fun w' k' S' d => trc_did HH.out HF.out HTN.out.1 HTN.out.2 d
    have HQ0 : Hid (∀ w' k' S', Ts w w' q fu k' T0 S' → Qd PQr w (w'.setCell ⟨t, 3, none⟩ (.int .i64 ((N + 1 : Nat) : Int))) t q (N + 1) fu k' T S') := fun w' k' S' d => trc_more HH.out HF.out HTN.out.1 HTN.out.2 d
    have HKP : Hid (∀ w' k' S', Ts w w' q fu k' T0 S' → w'.heap[t]? = some (trc q N)) := fun w' k' S' d => trc_kept HH.out HF.out HTN.out.1 d
    have HNN := hid hN
    have HFUL : Hid (fullT S (z.length + 1) = false) := eq_false_of_ne_true hfl
    have HTW := hid (wrS_two (enc z) S k)
    rw [ht]
    have HAW : Hid (∀ i, i ∈ lvs S → (S i).B.length + (l + 1) ≤ 65536) := fun i hi => by
      have h := HFUL.out
      rw [fullT_any, List.any_eq_false] at h
      have := h i hi
      rw [hz.len] at this
      simpa using this
    have H2 := hid (And.intro h2 h3)
    have HAN : Hid ((lvs S).any (fun i => decide (65536 < (S i).B.length + (l + 1))) = false) := by
      show _ = _
      rw [← hz.len, ← fullT_any]; exact HFUL.out
    have H1 := hid h1
    have HM : Hid (∀ i, i ∈ lvs S → i < 3 ∧ (S i).live = true) := fun i => lvs_mem
    obtain ⟨r, S', k', WR⟩ : ∃ (r : Int) (S' : Nat → TS) (k' : Option Nat), Hid (wrS (enc z) S k = (r, S', k')) := ⟨_, _, _, rfl⟩
    rw [WR.out] at HTW ⊢
    dsimp only at HTW ⊢
    obtain ⟨R, HRR⟩ : ∃ R : Ending → World → Prop, Hid (R = fun e w' => e = .returned (.int .i64 r) ∧ Qd PQr w w' t q (if r = 0 then N + 1 else N) fu k' T S') := ⟨_, rfl⟩
    rw [← HRR.out]
    clear hh hf hT htn hTT hz hc hl hn h1 ht hN hg1 h3 h2 hfl
    go_enter Try.func14, Try.ntmps14
    go_wp2_with fail
    refine (HFI.out _).mono ?_
    rintro e w1 ⟨rfl, rfl⟩
    go_wp2_with fail
    refine HLV.out.mono ?_
    rintro e w2 ⟨v, rfl, hp, u⟩
    have HP := hid hp
    have HU := hid u
    obtain ⟨va, vc, rfl, _⟩ := hp
    rw [ptrs_length, HLL.out] at HP ⊢
    have i1 : ¬ (nlv S : Int) < 2 := by have := H2.out; omega
    have hua : Up Nul w2 (w2.alloc (.cells #[.slice a l c] 30)) := (Up.refl Nul w2).alloc _
    have HUA := hid (HU.out.trans hua)
    have hrr : RRs (w2.alloc (.cells #[.slice a l c] 30)) (.slice (some ⟨w2.heap.size, 0, none⟩) 1 1) [z] :=
      ⟨_, _, rfl, .inr ⟨w2.heap.size, 0, rfl, by simp, fun i y hi => by
        match i, hi with
        | 0, hi =>
          cases hi
          rw [HZ.out.len]
          exact ⟨a, c, World.cell?_alloc_new w2 _ _ 0, HZ.out.nxt HUA.out⟩⟩⟩
    have HPK := hid (pack_any hrr (fun y hy => by rw [List.mem_singleton.1 hy, HZ.out.len]; have := H1.out; omega) (by simp) (by rw [flt_one, enc_length, HZ.out.len]; have := H1.out; omega))
    clear u hua hrr
    go_wp2_with fail
    refine HPK.out.mono ?_
    rintro e w4 ⟨vb, rfl, ho, u4⟩
    obtain ⟨ba, bc, rfl, hbc, hbs, hbn, _⟩ := ho.sln (by rw [flt_one, enc_length, HZ.out.len]; have := H1.out; omega)
    have hlen : (flt [z]).length = l + 1 := by rw [flt_one, enc_length, HZ.out.len]
    rw [hlen] at hbs hbc ⊢
    have HU4 := hid (HUA.out.trans u4)
    have hua : Up Nul w4 (w4.alloc (.cells #[.slice ba (l + 1) bc] 30)) := (Up.refl Nul w4).alloc _
    have HU5 := hid (HU4.out.trans hua)
    have HP5 := hid (((HP.out.nxt ((Up.refl Nul w2).alloc (.cells #[.slice a l c] 30))).nxt u4).nxt hua)
    have hcell := World.cell?_alloc_new w4 #[.slice ba (l + 1) bc] 30 0
    have hsz : w4.heap.size < (w4.alloc (.cells #[.slice ba (l + 1) bc] 30)).heap.size := by simp
    have HCO := hid (tcont_any HP5.out (fun i => decide (65536 < (S i).B.length + (l + 1))) w4.heap.size (fun i hi W u => full_any (HT.out.nxt (HU5.out.trans u)) (HM.out i hi).1 (HM.out i hi).2 ((u.cell (p := ⟨w4.heap.size, 0, none⟩) hsz id).trans hcell) (Nat.lt_of_lt_of_le hsz u.size) (by have := H1.out; omega)) (by rw [HLL.out]; have := H2.out; omega))
    rw [HAN.out] at HCO
    have HBS := hid (And.intro (hbs.nxt hua) hbc)
    have HAY : Hid (Away T0 fu ba (l + 1)) := .inr fun x ex => by
      obtain ⟨g, o, e1, e2⟩ := hbn (by rw [hlen]; omega)
      rw [e1] at ex
      cases ex
      have e2 : (w2.alloc (.cells #[.slice a l c] 30)).heap.size ≤ g := e2
      have h1 := HUA.out.size
      refine ⟨fun hg => ?_, fun e => ?_⟩
      · have h2 := HT.out.lt g hg
        omega
      · have hz := HF.out
        rw [e] at hz
        have h2 := Fz.lt hz; dsimp only at h2
        omega
    have HCE := hid (And.intro hcell hsz)
    have HSZ := hid hlen
    clear ho u4 hbs hbn hbc hua hcell hsz hlen HPK HP
    go_wp2_with fail
    refine HCO.out.mono ?_
    rintro e w6 ⟨rfl, u6⟩
    have x6 := (u6.cell (p := ⟨w4.heap.size, 0, none⟩) HCE.out.2 id).trans HCE.out.1
    have HU6 := hid (HU5.out.trans u6)
    have HWW := hid (write_any (HT.out.nxt HU6.out) (HF.out.up HU6.out fun _ _ h => h) (k := k) ((HP5.out.nxt u6).mono (Q := fun g => ¬ T0 g ∧ fu ≠ some g) fun g _ hg => ⟨fun e => by have := HT.out.lt g e; omega, fun e => by
        have hz := HF.out
        rw [e] at hz
        have := Fz.lt hz
        omega⟩) bc (HBS.out.1.nxt u6) HBS.out.2 HAY.out HAW.out)
    have henc : flt [z] = enc z := flt_one z
    rw [henc] at HWW
    rw [WR.out] at HWW
    clear u6 HCO HP5 HCE henc HU5
    go_wp2_with fail
    refine HWW.out.mono ?_
    rintro e w7 ⟨rfl, d⟩
    have hD := d.pre HU6.out
    obtain ⟨d0, d1, d2, d3, dfr⟩ := trc_cells (HKP.out _ _ _ hD)
    have f3 := dfr 3
    have HD := hid hD
    clear d hD HWW x6
    rcases HTW.out with e0 | e0
    · subst e0
      have HE := hid (HQ0.out _ _ _ HD.out)
      have i5 : (N : Int) ≤ 1000000 := by have := HNN.out; omega
      have i6 : (0 : Int) ≤ (N : Int) := by omega
      go_wp2_with fail
      rw [HRR.out]
      exact ⟨rfl, by rw [if_pos (by trivial)]; exact HE.out⟩
    · subst e0
      have HE := hid (HQ4.out _ _ _ HD.out)
      go_wp2_with fail
      rw [HRR.out]
      exact ⟨rfl, by rw [if_neg (by decide)]; exact HE.out⟩
end
end Go.Proofs.Ytencinajieicpaa
