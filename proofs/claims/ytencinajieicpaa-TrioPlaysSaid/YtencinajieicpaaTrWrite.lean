/- Append's parts: whether one is full; write. -/
import Derived.Test.YtencinajieicpaaTrLive
namespace Go.Proofs.Ytencinajieicpaa
open Go.RowKit
set_option linter.unusedVariables false

section
variable {w w' : World} {q : Nat → Nat} {fu k : Option Nat} {S : Nat → TS} {T : Nat → Prop}
/-! ### Whether one is full -/
theorem full_any (h : Tps w q fu S T) {i : Nat} (hi : i < 3) (hv : (S i).live = true) {A l c : Nat} {a : Option Addr} (hA : w.cell? ⟨A, 0, none⟩ = some (.slice a l c)) (hAl : A < w.heap.size) (hl : l ≤ 100000) :
    Calls Try.prog 43 #[.pointer (some ⟨q i, 0, none⟩), .pointer (some ⟨A, 0, none⟩)] w fun e w' => e = .returned (.bool (decide (65536 < (S i).B.length + l))) ∧ Up Nul w w' := by
  have HB := hid (tp_bytes h hi hv)
  have hle := (h.le i hi hv).1
  have HA := hid (And.intro hA hAl)
  obtain ⟨n, hn⟩ : ∃ n, n = (S i).B.length := ⟨_, rfl⟩
  rw [← hn] at HB hle ⊢
  have i1 : IntKind.i64.wrap (65536 - (n : Int)) = 65536 - (n : Int) := IntWalk.i64_in _ (by omega)
  have i4 : wrap64 (65536 - (n : Int)) = 65536 - (n : Int) := by rw [← IntWalk.i64_left]; exact i1
  clear h hA hle hn hAl
  by_cases hf : 65536 < n + l
  · rw [decide_eq_true hf]
    have i2 : 65536 - (n : Int) < (l : Int) := by omega
    clear hf
    go_enter Try.func43, Try.ntmps43
    go_wp2_with fail
    refine HB.out.mono ?_
    rintro e w1 ⟨b, cb, rfl, hg⟩
    have HG := hid hg
    have x1 := (HG.out.up.cell (p := ⟨A, 0, none⟩) HA.out.2 id).trans HA.out.1
    clear hg
    go_wp2
    go_ret
    exact ⟨rfl, HG.out.up⟩
  · rw [decide_eq_false hf]
    have i2 : ¬ 65536 - (n : Int) < (l : Int) := by omega
    have HF := hid (decide_eq_false i2)
    clear hf
    go_enter Try.func43, Try.ntmps43
    go_wp2_with fail
    refine HB.out.mono ?_
    rintro e w1 ⟨b, cb, rfl, hg⟩
    have HG := hid hg
    have x1 := (HG.out.up.cell (p := ⟨A, 0, none⟩) HA.out.2 id).trans HA.out.1
    clear hg
    go_wp2
    go_ret
    exact ⟨congrArg (fun b => Ending.returned (.bool b)) HF.out, HG.out.up⟩
theorem tindex_any {P : Nat → Prop} {v : Value} {L : List Nat} (h : PRow P w v (ptrs q L)) (bad : Nat → Bool) (A : Nat)
    (hc : ∀ i, i ∈ L → ∀ W, Up Nul w W → Calls Try.prog 43 #[.pointer (some ⟨q i, 0, none⟩), .pointer (some ⟨A, 0, none⟩)] W fun e w' => e = .returned (.bool (bad i)) ∧ Up Nul W w') (hl : L.length ≤ 3) :
    Calls Try.prog 61 #[v, .func (.func 43) #[] #[.pointer (some ⟨A, 0, none⟩)]] w
      fun e w' => ∃ x : Int, e = .returned (.int .i64 x) ∧ (decide (0 ≤ x) = L.any bad) ∧ Up Nul w w' := by
  obtain ⟨a, c, rfl, h⟩ := h
  rw [ptrs_length] at h ⊢
  have HR := hid h
  have HC := hid hc
  have HL := hid hl
  obtain ⟨n, N⟩ : ∃ n, Hid (L.length = n) := ⟨_, rfl⟩
  rw [N.out] at HR HL ⊢
  clear h hc hl
  go_enter Try.func61, Try.ntmps61
  go_wp2_with fail
  go_loopw [8] (fun i wr => ∃ t : Nat, t ≤ n ∧ i = .int .i64 (t : Nat) ∧ (L.take t).any bad = false ∧ Up Nul w wr) (fun i _ => n - (intOf i).toNat)
  case atStart => exact ⟨0, Nat.zero_le _, rfl, rfl, Up.refl _ _⟩
  case round =>
    obtain ⟨t, ht, rfl, hb, hu⟩ := hrel
    have HU := hid hu
    have HB := hid hb
    have i0 : (0 : Int) ≤ (t : Int) := by omega
    have i9 : (t : Int) ≤ 3 := by have := HL.out; omega
    by_cases hlt : t < n
    · obtain ⟨g, rfl, hg, _, hcell⟩ := HR.out.resolve_left (by omega)
      have htl : t < L.length := by rw [N.out]; exact hlt
      have x1 := (HU.out.cell (p := ⟨g, t, none⟩) hg id).trans (hcell t _ (ptrs_at htl))
      have HCI := hid (HC.out L[t] (List.getElem_mem htl) _ HU.out)
      have HNX : Hid ((L.take (t + 1)).any bad = bad L[t]) := by
        show _ = _
        rw [List.take_succ_eq_append_getElem htl, List.any_append, HB.out]
        simp
      have HANY : Hid (L.any bad = ((L.take (t + 1)).any bad || (L.drop (t + 1)).any bad)) := by
        show _ = _
        rw [← List.any_append, List.take_append_drop]
      generalize L[t] = j at x1 HCI HNX
      have i2 : (t : Int) < (n : Int) := by omega
      have HT := hid hlt
      generalize q j = qj at x1 HCI
      cases hbj : bad j with
      | true =>
        rw [hbj] at HCI HNX
        have HD : Hid (L.any bad = true) := by show _ = _; rw [HANY.out, HNX.out]; rfl
        clear hbj hb hu ht hlt hg hcell htl HNX HANY
        go_wp2_with fail
        refine HCI.out.mono ?_
        rintro e w1 ⟨rfl, u1⟩
        have HU1 := hid (HU.out.trans u1)
        clear u1
        go_wp2
        go_ret
        exact ⟨_, rfl, by rw [HD.out]; simp, HU1.out⟩
      | false =>
        rw [hbj] at HCI HNX
        clear hbj hb hu ht hlt hg hcell htl HANY
        go_wp2_with fail
        refine HCI.out.mono ?_
        rintro e w1 ⟨rfl, u1⟩
        have HU1 := hid (HU.out.trans u1)
        clear u1
        go_wp2_with fail
        go_roundw
        case rel => exact ⟨t + 1, HT.out, by go_num, HNX.out, HU1.out⟩
        case measure => have := HT.out; simp [intOf]; omega
    · obtain rfl : t = n := by omega
      have HD : Hid (L.any bad = false) := by
        have := HB.out
        rw [List.take_of_length_le (by rw [N.out]; exact Nat.le_refl _)] at this
        exact this
      clear hb hu ht hlt
      go_wp2
      go_ret
      exact ⟨_, rfl, by rw [HD.out]; rfl, HU.out⟩
theorem tcont_any {P : Nat → Prop} {v : Value} {L : List Nat} (h : PRow P w v (ptrs q L)) (bad : Nat → Bool) (A : Nat)
    (hc : ∀ i, i ∈ L → ∀ W, Up Nul w W → Calls Try.prog 43 #[.pointer (some ⟨q i, 0, none⟩), .pointer (some ⟨A, 0, none⟩)] W fun e w' => e = .returned (.bool (bad i)) ∧ Up Nul W w') (hl : L.length ≤ 3) :
    Calls Try.prog 44 #[v, .func (.func 43) #[] #[.pointer (some ⟨A, 0, none⟩)]] w
      fun e w' => e = .returned (.bool (L.any bad)) ∧ Up Nul w w' := by
  have H := hid (tindex_any h bad A hc hl)
  clear hc hl
  obtain ⟨a, c, rfl, h⟩ := h
  generalize L.any bad = b at H ⊢
  clear h
  go_enter Try.func44, Try.ntmps44
  go_wp2_with fail
  refine H.out.mono ?_
  rintro e w1 ⟨x, rfl, hx, u⟩
  have HU := hid u
  cases b with
  | true =>
    have h1 : 0 ≤ x := of_decide_eq_true hx
    clear hx u
    go_wp2
    go_ret
    exact ⟨rfl, HU.out⟩
  | false =>
    have h1 : ¬ 0 ≤ x := of_decide_eq_false hx
    have HX := hid hx
    clear hx u
    go_wp2
    go_ret
    exact ⟨congrArg (fun b => Ending.returned (.bool b)) HX.out, HU.out⟩
theorem fullT_any (S : Nat → TS) (n : Nat) : fullT S n = (lvs S).any fun i => decide (65536 < (S i).B.length + n) := by
  unfold fullT lvs
  rw [List.any_filter]
/-! ### 'write' -/
def wrS (z : List Nat) (S : Nat → TS) (k : Option Nat) : Int × (Nat → TS) × Option Nat :=
  match goL (apA z) S k (lvs S) with
  | (false, S1, k1) => (4, S1, k1)
  | (true, S1, k1) => match goL syA S1 k1 (lvs S) with
    | (false, S2, k2) => (4, S2, k2)
    | (true, S2, k2) => (0, S2, k2)
theorem lvs_congr {S S' : Nat → TS} (h : ∀ i, (S' i).live = (S i).live) : lvs S' = lvs S := by
  unfold lvs
  congr 1
  funext i
  exact h i
theorem app_wrS {S : Nat → TS} {z : List Nat} (k : Option Nat) (h1 : ¬ (z.length < 1 ∨ 250 < z.length)) (h2 : ¬ nlv S < 2) (h3 : fullT S (z.length + 1) = false) : tApp S k z = wrS (enc z) S k := by
  unfold tApp wrS
  rw [if_neg h1, if_neg h2, h3, if_neg (by decide), goN_goL (apA_off (enc z))]
  have hl := goL_live (act := apA (enc z)) (apA_live (enc z)) (S := S) (k := k) (lvs S)
  cases h : goL (apA (enc z)) S k (lvs S) with
  | mk b r =>
    obtain ⟨S1, k1⟩ := r
    rw [h] at hl
    cases b with
    | false => rfl
    | true =>
      dsimp only
      rw [goN_goL syA_off, lvs_congr (S := S) (S' := S1) hl]
      generalize goL syA S1 k1 (lvs S) = x
      obtain ⟨b, S2, k2⟩ := x
      cases b <;> rfl
theorem not_taken {L : List Nat} (h : L.Nodup) {t : Nat} (ht : t < L.length) : ¬ L[t] ∈ L.take t := by
  intro hm
  have h2 := h
  rw [← List.take_append_drop t L, List.nodup_append] at h2
  exact h2.2.2 _ hm _ (by rw [List.drop_eq_getElem_cons ht]; exact List.mem_cons_self ..) rfl
theorem goL_next {act : ActT} {S S1 : Nat → TS} {k k1 : Option Nat} {L : List Nat} {t : Nat} (ht : t < L.length) (h : goL act S k (L.take t) = (true, S1, k1)) {b : Bool} {s : TS} {k2 : Option Nat} (ha : act (S1 L[t]) k1 = (b, s, k2)) : goL act S k (L.take (t + 1)) = (b, updT S1 L[t] s, k2) := by
  rw [List.take_succ_eq_append_getElem ht, goL_snoc, h]
  show (match act (S1 L[t]) k1 with | (b, s, k2) => (b, updT S1 L[t] s, k2)) = _
  rw [ha]
theorem goL_out {act : ActT} {S S1 : Nat → TS} {k k1 : Option Nat} {L : List Nat} {t : Nat} (h : goL act S k (L.take t) = (false, S1, k1)) : goL act S k L = (false, S1, k1) := by
  have := goL_stop h (L.drop t)
  rwa [List.take_append_drop] at this
set_option maxRecDepth 100000 in
set_option maxHeartbeats 3200000 in
theorem write_any (h : Tps w q fu S T) (hf : FzO w fu k) {v : Value} (hr : PRow (fun g => ¬ T g ∧ fu ≠ some g) w v (ptrs q (lvs S))) {a : Option Addr} {l : Nat} (c : Nat) {z : List Nat} (hz : SlN w a l z) (hc : l ≤ c) (ha : Away T fu a l) (hl : ∀ i, i ∈ lvs S → (S i).B.length + l ≤ 65536) :
    Calls Try.prog 45 #[v, .slice a l c] w fun e w' => e = .returned (.int .i64 (wrS z S k).1) ∧ Ts w w' q fu (wrS z S k).2.2 T (wrS z S k).2.1 := by
  have HRW := hid hr
  have HTS := hid (Ts.refl h hf)
  have HZ := hid hz
  have HA := hid ha
  have HL := hid (And.intro hc hl)
  have HM : Hid (∀ i, i ∈ lvs S → i < 3 ∧ (S i).live = true) := fun i => lvs_mem
  have HND := hid (lvs_nodup S)
  have HN3 : Hid ((lvs S).length ≤ 3) := by show _ ≤ _; rw [lvs_length]; unfold nlv one; split <;> split <;> split <;> omega
  have HWR : Hid (wrS z S k = match goL (apA z) S k (lvs S) with | (false, S1, k1) => (4, S1, k1) | (true, S1, k1) => match goL syA S1 k1 (lvs S) with | (false, S2, k2) => (4, S2, k2) | (true, S2, k2) => (0, S2, k2)) := rfl
  obtain ⟨L, LL⟩ : ∃ L, Hid (lvs S = L) := ⟨_, rfl⟩
  rw [LL.out] at HRW HL HM HND HN3 HWR
  obtain ⟨W, WW⟩ : ∃ W, Hid (wrS z S k = W) := ⟨_, rfl⟩
  rw [WW.out] at HWR ⊢
  obtain ⟨n, N⟩ : ∃ n, Hid (L.length = n) := ⟨_, rfl⟩
  rw [N.out] at HN3
  have hrow := HRW.out
  clear h hf hr hz hc ha hl
  obtain ⟨va, vc, rfl, _⟩ := hrow
  rw [ptrs_length, N.out] at HRW ⊢
  go_enter Try.func45, Try.ntmps45
  go_wp2_with fail
  go_loopw [13] (fun i wr => ∃ (t : Nat) (S1 : Nat → TS) (k1 : Option Nat), t ≤ n ∧ i = .int .i64 (t : Nat) ∧ goL (apA z) S k (L.take t) = (true, S1, k1) ∧ Ts w wr q fu k1 T S1) (fun i _ => n - (intOf i).toNat)
  case atStart => exact ⟨0, S, k, Nat.zero_le _, rfl, rfl, HTS.out⟩
  case round =>
    obtain ⟨t, S1, k1, ht, rfl, hg, hts⟩ := hrel
    have HT1 := hid hts
    have HG := hid hg
    have i0 : (0 : Int) ≤ (t : Int) := by omega
    have i9 : (t : Int) ≤ 3 := by have := HN3.out; omega
    have hrow := HRW.out.up HT1.out.up fun g _ hp e => e.elim hp.1 hp.2
    by_cases hlt : t < n
    · have htl : t < L.length := by rw [N.out]; exact hlt
      obtain ⟨a', c', e', hrow⟩ := hrow
      rw [ptrs_length, N.out] at e' hrow
      injection e' with e1 e2 e3
      subst e1
      obtain ⟨g, rfl, hgl, hgp, hcell⟩ := hrow.resolve_left (by omega)
      have x1 := hcell t _ (ptrs_at htl)
      have hm := HM.out L[t] (List.getElem_mem htl)
      have hS : S1 L[t] = S L[t] := by
        have := goL_rest (act := apA z) (S := S) (k := k) (L.take t) L[t] (not_taken HND.out htl)
        rw [hg] at this
        exact this
      have hroom := HL.out.2 L[t] (List.getElem_mem htl)
      obtain ⟨T1, d1, d2⟩ := HT1.out.ex
      have hap := tp_append d1 HT1.out.fz hm.1 (by rw [hS]; exact hm.2) c (HA.out.sl HZ.out HT1.out.up) HL.out.1 (by rw [hS]; exact hroom) (HA.out.go HZ.out d2)
      have HD2 := hid d2
      have i2 : (t : Int) < (n : Int) := by omega
      have HT := hid hlt
      cases hact : apA z (S1 L[t]) k1 with
      | mk b r =>
        obtain ⟨s, k2⟩ := r
        have HNX := hid (goL_next htl hg hact)
        rw [hact] at hap
        generalize L[t] = j at x1 hap HNX
        cases b with
        | false =>
          have HAP : Hid (Calls Try.prog 37 #[.pointer (some ⟨q j, 0, none⟩), .slice a l c] wr fun e w' => e = .returned (.int .i64 4) ∧ Ts wr w' q fu k2 T1 (updT S1 j s)) := hap
          have HE : Hid (W = (4, updT S1 j s, k2)) := by show _ = _; rw [HWR.out, goL_out HNX.out]
          clear hap hact hg hts ht hlt hgl hgp hcell hm hS hroom d1 d2 htl hrow HNX HWR e2 e3
          go_wp2_with fail
          refine HAP.out.mono ?_
          rintro e w1 ⟨rfl, d⟩
          have HTT := hid (HT1.out.then HD2.out d)
          clear d
          go_wp2
          go_ret
          rw [HE.out]
          exact ⟨rfl, HTT.out⟩
        | true =>
          have HAP : Hid (Calls Try.prog 37 #[.pointer (some ⟨q j, 0, none⟩), .slice a l c] wr fun e w' => e = .returned (.int .i64 0) ∧ Ts wr w' q fu k2 T1 (updT S1 j s)) := hap
          clear hap hact hg hts ht hlt hgl hgp hcell hm hS hroom d1 d2 htl hrow HWR e2 e3
          go_wp2_with fail
          refine HAP.out.mono ?_
          rintro e w1 ⟨rfl, d⟩
          have HTT := hid (HT1.out.then HD2.out d)
          clear d
          go_wp2_with fail
          go_roundw
          case rel => exact ⟨t + 1, _, _, HT.out, by go_num, HNX.out, HTT.out⟩
          case measure => have := HT.out; simp [intOf]; omega
    · obtain rfl : t = n := by omega
      have hgA : goL (apA z) S k L = (true, S1, k1) := by rw [← hg, List.take_of_length_le (by rw [N.out]; exact Nat.le_refl _)]
      have HW2 : Hid (W = match goL syA S1 k1 L with | (false, S2, k2) => (4, S2, k2) | (true, S2, k2) => (0, S2, k2)) := by show _ = _; rw [HWR.out, hgA]
      have HLV : Hid (∀ i, i ∈ L → (S1 i).live = true) := fun i hi => by
        have := goL_live (act := apA z) (apA_live z) (S := S) (k := k) L i
        rw [hgA] at this
        exact this.trans (HM.out i hi).2
      clear hg hts ht hlt hrow hgA HG HWR HTS i0 i9
      go_wp2_with fail
      go_loopw [26] (fun i wr2 => ∃ (t2 : Nat) (S2 : Nat → TS) (k2 : Option Nat), t2 ≤ t ∧ i = .int .i64 (t2 : Nat) ∧ goL syA S1 k1 (L.take t2) = (true, S2, k2) ∧ Ts w wr2 q fu k2 T S2) (fun i _ => t - (intOf i).toNat)
      case atStart => exact ⟨0, S1, k1, Nat.zero_le _, rfl, rfl, HT1.out⟩
      case round =>
        obtain ⟨t2, S2, k2, ht, rfl, hg, hts⟩ := hrel
        have HT2 := hid hts
        have HG := hid hg
        have i0 : (0 : Int) ≤ (t2 : Int) := by omega
        have i9 : (t2 : Int) ≤ 3 := by have := HN3.out; omega
        have hrow := HRW.out.up HT2.out.up fun g _ hp e => e.elim hp.1 hp.2
        by_cases hlt : t2 < t
        · have htl : t2 < L.length := by rw [N.out]; exact hlt
          obtain ⟨a', c', e', hrow⟩ := hrow
          rw [ptrs_length, N.out] at e' hrow
          injection e' with e1 e2 e3
          subst e1
          obtain ⟨g, rfl, hgl, hgp, hcell⟩ := hrow.resolve_left (by omega)
          have x1 := hcell t2 _ (ptrs_at htl)
          have hm := HM.out L[t2] (List.getElem_mem htl)
          have hlv := HLV.out L[t2] (List.getElem_mem htl)
          have hS : S2 L[t2] = S1 L[t2] := by
            have := goL_rest (act := syA) (S := S1) (k := k1) (L.take t2) L[t2] (not_taken HND.out htl)
            rw [hg] at this
            exact this
          obtain ⟨T1, d1, d2⟩ := HT2.out.ex
          have hap := tp_sync d1 HT2.out.fz hm.1 (by rw [hS]; exact hlv)
          have HD2 := hid d2
          have i2 : (t2 : Int) < (t : Int) := by omega
          have HT := hid hlt
          cases hact : syA (S2 L[t2]) k2 with
          | mk b r =>
            obtain ⟨s, k3⟩ := r
            have HNX := hid (goL_next htl hg hact)
            rw [hact] at hap
            generalize L[t2] = j at x1 hap HNX
            cases b with
            | false =>
              have HAP : Hid (Calls Try.prog 38 #[.pointer (some ⟨q j, 0, none⟩)] wr fun e w' => e = .returned (.int .i64 4) ∧ Ts wr w' q fu k3 T1 (updT S2 j s)) := hap
              have HE : Hid (W = (4, updT S2 j s, k3)) := by show _ = _; rw [HW2.out, goL_out HNX.out]
              clear hap hact hg hts ht hlt hgl hgp hcell hm hS hlv d1 d2 htl hrow HNX HW2 e2 e3
              go_wp2_with fail
              refine HAP.out.mono ?_
              rintro e w1 ⟨rfl, d⟩
              have HTT := hid (HT2.out.then HD2.out d)
              clear d
              go_wp2
              go_ret
              rw [HE.out]
              exact ⟨rfl, HTT.out⟩
            | true =>
              have HAP : Hid (Calls Try.prog 38 #[.pointer (some ⟨q j, 0, none⟩)] wr fun e w' => e = .returned (.int .i64 0) ∧ Ts wr w' q fu k3 T1 (updT S2 j s)) := hap
              clear hap hact hg hts ht hlt hgl hgp hcell hm hS hlv d1 d2 htl hrow HW2 e2 e3
              go_wp2_with fail
              refine HAP.out.mono ?_
              rintro e w1 ⟨rfl, d⟩
              have HTT := hid (HT2.out.then HD2.out d)
              clear d
              go_wp2_with fail
              go_roundw
              case rel => exact ⟨t2 + 1, _, _, HT.out, by go_num, HNX.out, HTT.out⟩
              case measure => have := HT.out; simp [intOf]; omega
        · obtain rfl : t2 = t := by omega
          have HE : Hid (W = (0, S2, k2)) := by
            show _ = _
            rw [HW2.out, show goL syA S1 k1 L = (true, S2, k2) by rw [← hg, List.take_of_length_le (by rw [N.out]; exact Nat.le_refl _)]]
          clear hg hts ht hlt hrow HW2
          go_wp2
          go_ret
          rw [HE.out]
          exact ⟨rfl, HT2.out⟩
end
end Go.Proofs.Ytencinajieicpaa
