/- The program's Trio: Open. -/
import Derived.Test.YtencinajieicpaaTrPQ
import Derived.Test.YtencinajieicpaaTrAgreed
import Derived.Test.YtencinajieicpaaTrWrite
namespace Go.Proofs.Ytencinajieicpaa
open Go.RowKit
set_option linter.unusedVariables false

theorem bst_pre (S : Nat → TS) : bst S = [] ∨ ∃ i t, i < 3 ∧ (S i).live = true ∧ spl (S i).B = bst S ++ t := by
  have hl : ∀ a b : List (List Nat), longer a b = a ∨ longer a b = b := fun a b => by
    unfold longer; split
    · exact .inr rfl
    · exact .inl rfl
  have hc : ∀ i k, i < 3 → cand S i k = [] ∨ ∃ j t, j < 3 ∧ (S j).live = true ∧ spl (S j).B = cand S i k ++ t := fun i k hi => by
    unfold cand
    cases h : (S i).live && (S k).live with
    | false => exact .inl (if_neg (by simp))
    | true =>
      rw [if_pos rfl]
      have h2 : (S i).live = true := by
        cases h3 : (S i).live
        · rw [h3] at h; cases h
        · rfl
      obtain ⟨t, ht⟩ := com_left (spl (S i).B) (spl (S k).B)
      exact .inr ⟨i, t, hi, h2, ht⟩
  unfold bst
  rcases hl (longer (longer [] (cand S 1 0)) (cand S 2 0)) (cand S 2 1) with e | e
  · rw [e]
    rcases hl (longer [] (cand S 1 0)) (cand S 2 0) with e | e
    · rw [e]
      rcases hl [] (cand S 1 0) with e | e
      · exact .inl e
      · rw [e]; exact hc 1 0 (by omega)
    · rw [e]; exact hc 2 0 (by omega)
  · rw [e]; exact hc 2 1 (by omega)
theorem bst_good {w : World} {q : Nat → Nat} {fu : Option Nat} {S : Nat → TS} {T : Nat → Prop} (h : Tps w q fu S T) : (∀ y ∈ bst S, Rec y) ∧ (flt (bst S)).length ≤ 65536 := by
  rcases bst_pre S with e | ⟨i, t, hi, hv, e⟩
  · rw [e]; exact ⟨fun y hy => (by cases hy), Nat.zero_le _⟩
  · refine ⟨fun y hy => spl_rec (b := (S i).B) (by rw [e]; exact List.mem_append_left _ hy), ?_⟩
    obtain ⟨s, hs⟩ := flt_spl (S i).B
    have h1 := congrArg List.length hs
    rw [e, flt_append, List.append_assoc, List.length_append] at h1
    have := (h.le i hi hv).1
    omega
/-- Open, as the walk meets it. -/
def opS (S : Nat → TS) (k : Option Nat) : Int × List (List Nat) × (Nat → TS) × Option Nat :=
  match goL (fxA (bst S)) S k (lvs S) with
  | (false, S1, k1) => (4, [], S1, k1)
  | (true, S1, k1) => (0, bst S, S1, k1)
theorem opn_opS {S : Nat → TS} (k : Option Nat) (h2 : ¬ nlv S < 2) : tOpn S k = opS S k := by
  unfold tOpn opS
  rw [if_neg h2, goN_goL (fxA_off (bst S))]
  generalize goL (fxA (bst S)) S k (lvs S) = x
  obtain ⟨b, S1, k1⟩ := x
  cases b <;> rfl
section
variable {w w' : World} {t : Nat} {q : Nat → Nat} {N : Nat} {fu k k' : Option Nat} {S S' : Nat → TS} {T T0 : Nat → Prop}
set_option maxRecDepth 100000 in
set_option maxHeartbeats 6400000 in
theorem ptr_open (h : PQr w t q N fu S T) (hf : FzO w fu k) : Calls Try.prog 18 #[tri q] w fun e w' =>
      ((tOpn S k).1 = 0 ∧ ∃ t' v, e = .returned (.tuple #[.pointer (some ⟨t', 0, none⟩), v, .int .i64 0]) ∧ RRs w' v (tOpn S k).2.1 ∧ Qd PQr w w' t' q (tOpn S k).2.1.length fu (tOpn S k).2.2.2 T (tOpn S k).2.2.1) ∨
      (¬ (tOpn S k).1 = 0 ∧ ∃ a c, e = .returned (.tuple #[.pointer none, .slice a 0 c, .int .i64 (tOpn S k).1]) ∧ Qd PQr w w' t q N fu (tOpn S k).2.2.2 T (tOpn S k).2.2.1) := by
  obtain ⟨hh, T0, hT, htn, hTT⟩ := h
  have HQ4 : Hid (∀ w' k' S', Ts w w' q fu k' T0 S' → Qd PQr w w' t q N fu k' T S') := fun w' k' S' d => trc_did hh hf htn hTT d
  have HTT := hid hTT
  have hua : Up Nul w (w.alloc (.cells #[.pointer (some ⟨q 0, 0, none⟩), .pointer (some ⟨q 1, 0, none⟩), .pointer (some ⟨q 2, 0, none⟩)] 27)) := (Up.refl Nul w).alloc _
  have HUA := hid hua
  have HT := hid hT
  have HF := hid hf
  have HLV := hid (living_tps (hT.nxt hua))
  have HLL : Hid ((lvs S).length = nlv S) := lvs_length S
  have HCA : Hid (∀ i (hi : i < 3), (w.alloc (.cells #[.pointer (some ⟨q 0, 0, none⟩), .pointer (some ⟨q 1, 0, none⟩), .pointer (some ⟨q 2, 0, none⟩)] 27)).cell? ⟨w.heap.size, i, none⟩ = some (.pointer (some ⟨q i, 0, none⟩))) := fun i hi => by
    match i, hi with
    | 0, _ => exact World.cell?_alloc_new w _ _ 0
    | 1, _ => exact World.cell?_alloc_new w _ _ 1
    | 2, _ => exact World.cell?_alloc_new w _ _ 2
  have HASZ : Hid (w.heap.size < (w.alloc (.cells #[.pointer (some ⟨q 0, 0, none⟩), .pointer (some ⟨q 1, 0, none⟩), .pointer (some ⟨q 2, 0, none⟩)] 27)).heap.size) := by show _ < _; simp
  unfold tri at HLV ⊢
  obtain ⟨R, HRR⟩ : ∃ R : Ending → World → Prop, Hid (R = fun e w' => ((tOpn S k).1 = 0 ∧ ∃ t' v, e = .returned (.tuple #[.pointer (some ⟨t', 0, none⟩), v, .int .i64 0]) ∧ RRs w' v (tOpn S k).2.1 ∧ Qd PQr w w' t' q (tOpn S k).2.1.length fu (tOpn S k).2.2.2 T (tOpn S k).2.2.1) ∨
      (¬ (tOpn S k).1 = 0 ∧ ∃ a c, e = .returned (.tuple #[.pointer none, .slice a 0 c, .int .i64 (tOpn S k).1]) ∧ Qd PQr w w' t q N fu (tOpn S k).2.2.2 T (tOpn S k).2.2.1)) := ⟨_, rfl⟩
  rw [← HRR.out]
  have h3 : nlv S ≤ 3 := by unfold nlv one; split <;> split <;> split <;> omega
  by_cases h2 : nlv S < 2
  · have ht : tOpn S k = (8, [], S, k) := by unfold tOpn; rw [if_pos h2]
    rw [ht] at HRR
    have H2 := hid h2
    clear hh hf hT htn hTT hua h2 ht h3
    go_enter Try.func18, Try.ntmps18
    go_wp2_with fail
    generalize World.alloc w _ = wa at HUA HLV HCA HASZ ⊢
    generalize w.heap.size = lb at HCA HASZ ⊢
    refine HLV.out.mono ?_
    rintro e w2 ⟨v, rfl, hp, u⟩
    obtain ⟨va, vc, rfl, _⟩ := hp
    rw [ptrs_length, HLL.out]
    have HU := hid (HUA.out.trans u)
    have i1 : (nlv S : Int) < 2 := by have := H2.out; omega
    clear u
    go_wp2_with fail
    go_ret3
    rw [HRR.out]
    exact .inr ⟨by decide, _, _, rfl, HQ4.out _ _ _ (Ts.nul HT.out HF.out HU.out)⟩
  · have ht := opn_opS k h2
    rw [ht] at HRR
    have HM : Hid (∀ i, i ∈ lvs S → i < 3 ∧ (S i).live = true) := fun i => lvs_mem
    have HND := hid (lvs_nodup S)
    have HN3 := hid (And.intro h2 h3)
    have HOP : Hid (opS S k = match goL (fxA (bst S)) S k (lvs S) with | (false, S1, k1) => (4, [], S1, k1) | (true, S1, k1) => (0, bst S, S1, k1)) := rfl
    obtain ⟨L, LL⟩ : ∃ L, Hid (lvs S = L) := ⟨_, rfl⟩
    have HAG := hid fun (P : Nat → Prop) (W : World) (v : Value) (u : Up Nul w W) (hp : PRow P W v (ptrs q (lvs S))) => agreed_any (k := none) (hT.nxt u) hp
    have HBG := hid (bst_good hT)
    obtain ⟨BS, BB⟩ : ∃ B, Hid (bst S = B) := ⟨_, rfl⟩
    rw [LL.out] at HLV HLL HM HND HOP HAG
    rw [BB.out] at HOP HAG HBG
    obtain ⟨n, N⟩ : ∃ n, Hid (L.length = n) := ⟨_, rfl⟩
    rw [N.out] at HLL
    clear hh hf hT htn hTT hua h2 ht h3
    go_enter Try.func18, Try.ntmps18
    go_wp2_with fail
    generalize World.alloc w _ = wa at HUA HLV HCA HASZ ⊢
    obtain ⟨lb, LBB⟩ : ∃ lb, Hid (w.heap.size = lb) := ⟨_, rfl⟩
    rw [LBB.out] at HCA HASZ ⊢
    refine HLV.out.mono ?_
    rintro e w2 ⟨v, rfl, hp, u⟩
    have HU := hid (HUA.out.trans u)
    have hag := HAG.out _ w2 v HU.out hp
    obtain ⟨va, vc, rfl, _⟩ := id hp
    rw [ptrs_length, N.out] at hp hag ⊢
    have HP := hid hp
    have HAGG := hid hag
    have HCB := hid fun i hi => (u.cell (p := ⟨lb, i, none⟩) HASZ.out id).trans (HCA.out i hi)
    have HSB := hid (Nat.lt_of_lt_of_le HASZ.out u.size)
    have i1 : ¬ (n : Int) < 2 := by have := HN3.out; have := HLL.out; omega
    clear u hp hag HLV HAG HCA HASZ
    go_wp2_with fail
    refine HAGG.out.mono ?_
    rintro e w3 ⟨vr, rfl, hr, u⟩
    have HU3 := hid (HU.out.trans u)
    have HCC := hid fun i hi => (u.cell (p := ⟨lb, i, none⟩) HSB.out id).trans (HCB.out i hi)
    have HSC := hid (Nat.lt_of_lt_of_le HSB.out u.size)
    have far : ∀ g, w.heap.size ≤ g → ¬ T0 g ∧ fu ≠ some g := fun g hg => ⟨fun e => by have := HT.out.lt g e; omega, fun e => by
      have hz := HF.out
      rw [e] at hz
      have := Fz.lt hz
      omega⟩
    have HFAR := hid far
    have HP3 := hid ((HP.out.nxt u).mono (Q := fun g => ¬ T0 g ∧ fu ≠ some g) fun g _ hg => far g (Nat.le_trans HUA.out.size hg))
    have HR3 := hid (hr.mono (Q := fun g => ¬ T0 g ∧ fu ≠ some g) fun g _ hg => far g (Nat.le_trans HU.out.size hg))
    have HTS := hid (Ts.refl (HT.out.nxt HU3.out) (HF.out.up HU3.out fun _ _ h => h))
    obtain ⟨ra, rc, rfl, _⟩ := id hr
    clear u hr far HAGG HP HCB HSB HU
    go_wp2_with fail
    go_loopw [19] (fun i wr => ∃ (t : Nat) (S1 : Nat → TS) (k1 : Option Nat), t ≤ n ∧ i = .int .i64 (t : Nat) ∧ goL (fxA BS) S k (L.take t) = (true, S1, k1) ∧ Ts w3 wr q fu k1 T0 S1) (fun i _ => n - (intOf i).toNat)
    case atStart => exact ⟨0, S, k, Nat.zero_le _, rfl, rfl, HTS.out⟩
    case round =>
      obtain ⟨s, S1, k1, ht, rfl, hg, hts⟩ := hrel
      have HT1 := hid hts
      have i0 : (0 : Int) ≤ (s : Int) := by omega
      have i9 : (s : Int) ≤ 3 := by have := HN3.out; have := HLL.out; omega
      by_cases hlt : s < n
      · have htl : s < L.length := by rw [N.out]; exact hlt
        obtain ⟨a', c', e', hrow⟩ := HP3.out.up HT1.out.up fun g _ hp e => e.elim hp.1 hp.2
        rw [ptrs_length, N.out] at e' hrow
        injection e' with e1 e2 e3
        subst e1
        obtain ⟨g, rfl, hgl, hgp, hcell⟩ := hrow.resolve_left (by omega)
        have x1 := hcell s _ (ptrs_at htl)
        have hm := HM.out L[s] (List.getElem_mem htl)
        have hS : S1 L[s] = S L[s] := by
          have := goL_rest (act := fxA BS) (S := S) (k := k) (L.take s) L[s] (not_taken HND.out htl)
          rw [hg] at this
          exact this
        obtain ⟨T1, d1, d2⟩ := HT1.out.ex
        have hrr := ((HR3.out.mono (Q := fun g => ¬ T0 g ∧ ¬ T1 g ∧ fu ≠ some g) fun g hg hp => ⟨hp.1, fun e => by
            rcases d2 g e with e | e
            · exact hp.1 e
            · omega, hp.2⟩).up HT1.out.up fun g _ hp e => e.elim hp.1 hp.2.2).mono (Q := fun g => ¬ T1 g ∧ fu ≠ some g) fun g _ hp => hp.2
        have hal := align_any d1 HT1.out.fz hm.1 (by rw [hS]; exact hm.2) hrr HBG.out.1 HBG.out.2
        have HD2 := hid d2
        have i2 : (s : Int) < (n : Int) := by omega
        have HTT2 := hid hlt
        cases hact : fxA BS (S1 L[s]) k1 with
        | mk b r =>
          obtain ⟨st, k2⟩ := r
          have HNX := hid (goL_next htl hg hact)
          rw [hact] at hal
          generalize L[s] = j at x1 hal HNX
          cases b with
          | false =>
            have HAL : Hid (Calls Try.prog 49 #[.pointer (some ⟨q j, 0, none⟩), .slice ra BS.length rc] wr fun e w' => e = .returned (.int .i64 4) ∧ Ts wr w' q fu k2 T1 (updT S1 j st)) := hal
            have HE : Hid (opS S k = (4, [], updT S1 j st, k2)) := by show _ = _; rw [HOP.out, goL_out HNX.out]
            rw [HE.out] at HRR
            clear hal hact hg hts ht hlt hgl hgp hcell hm hS d1 d2 htl hrow hrr HNX HOP e2 e3
            go_wp2_with fail
            refine HAL.out.mono ?_
            rintro e w5 ⟨rfl, d⟩
            have HTT := hid ((HT1.out.then HD2.out d).pre HU3.out)
            clear d
            go_wp2_with fail
            go_ret3
            rw [HRR.out]
            exact .inr ⟨by decide, _, _, rfl, HQ4.out _ _ _ HTT.out⟩
          | true =>
            have HAL : Hid (Calls Try.prog 49 #[.pointer (some ⟨q j, 0, none⟩), .slice ra BS.length rc] wr fun e w' => e = .returned (.int .i64 0) ∧ Ts wr w' q fu k2 T1 (updT S1 j st)) := hal
            clear hal hact hg hts ht hlt hgl hgp hcell hm hS d1 d2 htl hrow hrr HOP e2 e3
            go_wp2_with fail
            refine HAL.out.mono ?_
            rintro e w5 ⟨rfl, d⟩
            have HTT := hid (HT1.out.then HD2.out d)
            clear d
            go_wp2_with fail
            go_roundw
            case rel => exact ⟨s + 1, _, _, HTT2.out, by go_num, HNX.out, HTT.out⟩
            case measure => have := HTT2.out; simp [intOf]; omega
      · obtain rfl : s = n := by omega
        have HE : Hid (opS S k = (0, BS, S1, k1)) := by
          show _ = _
          rw [HOP.out, show goL (fxA BS) S k L = (true, S1, k1) by rw [← hg, List.take_of_length_le (by rw [N.out]; exact Nat.le_refl _)]]
        rw [HE.out] at HRR
        have hfl := HFAR.out lb (by rw [LBB.out]; exact Nat.le_refl _)
        have hcell := fun i hi => (HT1.out.up.cell (p := ⟨lb, i, none⟩) HSC.out fun e => e.elim hfl.1 hfl.2).trans (HCC.out i hi)
        have x0 := hcell 0 (by omega)
        have x1 := hcell 1 (by omega)
        have x2 := hcell 2 (by omega)
        have hrr := (HR3.out.up HT1.out.up fun g _ hp e => e.elim hp.1 hp.2).rr
        obtain ⟨T1, d1, d2⟩ := HT1.out.ex
        have hal : Up Nul wr (wr.alloc (trc q BS.length)) := (Up.refl Nul wr).alloc _
        have HQ : Hid (Qd PQr w (wr.alloc (trc q BS.length)) wr.heap.size q BS.length fu k1 T S1) := by
          refine ⟨⟨fun g => g = wr.heap.size ∨ T1 g, ⟨heap_alloc_new _ _, T1, d1.nxt hal, fun e => ?_, fun _ => Iff.rfl⟩, fun g hg => ?_⟩, ?_, HT1.out.fz.up hal fun _ _ h => h⟩
          · have := d1.lt _ e; omega
          · rcases hg with e | e
            · right; rw [e]; exact Nat.le_trans HU3.out.size HT1.out.up.size
            · rcases d2 g e with e | e
              · exact .inl ((HTT.out g).2 (.inr e))
              · exact .inr (Nat.le_trans HU3.out.size e)
          · exact (HU3.out.nul.trans (HT1.out.up.mono fun g _ e => e.imp (fun e => (HTT.out g).2 (.inr e)) id)).trans hal.nul
        have HRS := hid (hrr.nxt hal)
        clear hg hts ht hlt hfl hcell hrr d1 d2 hal HOP
        unfold trc at HQ HRS
        go_wp2_with fail
        go_ret3
        rw [HRR.out]
        exact .inl ⟨by trivial, _, _, rfl, HRS.out, HQ.out⟩
end
end Go.Proofs.Ytencinajieicpaa
