/- 'isTwice': slices.Index and slices.Contains of ints. -/
import Derived.Test.YtmhmlfgikmeejaaDoorMtStep
namespace Go.Proofs.YtmhmlfgikmeejaaDoor
open Go.RowKit Go.Maps
set_option linter.unusedVariables false

/-- Where v is first, or -1. -/
def idxI (zs : List Int) (v : Int) : Int := if v ∈ zs then ((zs.idxOf v : Nat) : Int) else -1
set_option maxHeartbeats 4000000 in
theorem sindex_any (w : World) (a : Option Addr) (c : Nat) (zs : List Int) (h : RowI w a zs) (hl : zs.length ≤ 100000) (v : Int) :
    Calls Tryd.prog 61 #[.slice a zs.length c, .int .i64 v] w fun e w' => e = .returned (.int .i64 (idxI zs v)) ∧ w' = w := by
  have HR := hid h
  have HL := hid hl
  obtain ⟨n, N⟩ : ∃ n, Hid (zs.length = n) := ⟨_, rfl⟩
  rw [N.out] at HL ⊢
  obtain ⟨R, HI⟩ : ∃ R, Hid (idxI zs v = R) := ⟨_, rfl⟩
  rw [HI.out]
  clear h hl
  go_enter Tryd.func61, Tryd.ntmps61
  go_wp2_with fail
  go_loopw [8] (fun i wr => ∃ t : Nat, t ≤ n ∧ i = .int .i64 (t : Nat) ∧ v ∉ zs.take t ∧ wr = w) (fun i _ => n - (intOf i).toNat)
  case atStart => exact ⟨0, Nat.zero_le _, rfl, by simp, rfl⟩
  case round =>
    obtain ⟨t, ht, rfl, hb, rfl⟩ := hrel
    have HB := hid hb
    have i0 : (0 : Int) ≤ (t : Int) := by omega
    have i9 : (t : Int) ≤ 100000 := by have := HL.out; omega
    by_cases hlt : t < n
    · have htl : t < zs.length := by rw [N.out]; exact hlt
      obtain ⟨g, o, rfl, hg, hcell⟩ := HR.out.resolve_left (fun e => by rw [e] at htl; cases htl)
      have x1 := hcell t _ (List.getElem?_eq_getElem htl)
      have HT := hid hlt
      by_cases hvt : v = zs[t]
      · have HE : Hid (R = (t : Int)) := by
          show _ = _
          rw [← HI.out]
          unfold idxI
          have hm : v ∈ zs := by rw [hvt]; exact List.getElem_mem htl
          rw [if_pos hm]
          have : zs.idxOf v = t := by
            have h1 : zs.idxOf v ≤ t := by
              rcases Nat.lt_or_ge t (zs.idxOf v) with h | h
              · have := List.not_of_lt_findIdx (p := (· == v)) (xs := zs) (i := t) h
                rw [← hvt] at this
                simp at this
              · exact h
            have h2 : ¬ zs.idxOf v < t := fun h2 => HB.out (by
              rw [List.mem_take_iff_getElem]
              exact ⟨zs.idxOf v, by omega, List.getElem_idxOf (by omega)⟩)
            omega
          rw [this]
        have i2 : (t : Int) < (n : Int) := by omega
        rw [← hvt] at x1
        clear hb ht hlt hvt hcell hg htl
        go_wp2
        go_ret
        rw [HE.out]
        exact ⟨rfl, rfl⟩
      · have hb2 : (v == zs[t]) = false := by rw [beq_eq_false_iff_ne]; exact hvt
        have HNX : Hid (v ∉ zs.take (t + 1)) := by
          show v ∉ _
          rw [List.take_succ_eq_append_getElem htl]
          simp only [List.mem_append, List.mem_singleton, not_or]
          exact ⟨HB.out, hvt⟩
        generalize zs[t] = x at x1 hb2
        have i2 : (t : Int) < (n : Int) := by omega
        clear hb ht hlt hvt hcell hg htl
        go_wp2_with fail
        go_roundw
        case rel => exact ⟨t + 1, HT.out, by go_num, HNX.out, trivial⟩
        case measure => have := HT.out; simp [intOf]; omega
    · obtain rfl : t = n := by omega
      have HE : Hid (R = -1) := by
        show _ = _
        rw [← HI.out]
        unfold idxI
        have hn : v ∉ zs := by have := HB.out; rwa [List.take_of_length_le (by rw [N.out]; exact Nat.le_refl _)] at this
        rw [if_neg hn]
      clear hb ht hlt
      go_wp2
      go_ret
      rw [HE.out]
      exact ⟨rfl, rfl⟩
theorem idxI_nonneg (zs : List Int) (v : Int) : decide (0 ≤ idxI zs v) = decide (v ∈ zs) := by
  unfold idxI
  split
  · rename_i h; simp [h]
  · rename_i h; simp [h]
theorem scontains_any (w : World) (a : Option Addr) (c : Nat) (zs : List Int) (h : RowI w a zs) (hl : zs.length ≤ 100000) (v : Int) :
    Calls Tryd.prog 62 #[.slice a zs.length c, .int .i64 v] w fun e w' => e = .returned (.bool (decide (v ∈ zs))) ∧ w' = w := by
  have H := hid (sindex_any w a c zs h hl v)
  have HN := hid (idxI_nonneg zs v)
  clear h hl
  generalize zs.length = n at H ⊢
  generalize decide (v ∈ zs) = b at HN ⊢
  generalize idxI zs v = x at H HN
  go_enter Tryd.func62, Tryd.ntmps62
  go_wp2_with fail
  refine H.out.mono ?_
  rintro e w1 ⟨rfl, rfl⟩
  go_wp2
  go_ret
  refine ⟨?_, rfl⟩
  have := HN.out
  first | exact congrArg (fun b => Ending.returned (.bool b)) this | (rw [← this]; rfl)
theorem count_first {zs : List Int} {v : Int} (h : v ∈ zs) : decide (1 < zs.count v) = decide (v ∈ zs.drop (zs.idxOf v + 1)) := by
  induction zs with
  | nil => cases h
  | cons z l ih =>
    by_cases e : z = v
    · subst e
      simp [List.count_pos_iff]
    · have hm : v ∈ l := by
        rcases List.mem_cons.1 h with h | h
        · exact absurd h.symm e
        · exact h
      have hne : (z == v) = false := by rw [beq_eq_false_iff_ne]; exact e
      rw [List.count_cons, List.idxOf_cons, hne]
      simp only [cond_false, Bool.false_eq_true, if_false, Nat.add_zero, List.drop_succ_cons]
      exact ih hm
set_option maxRecDepth 10000 in
set_option maxHeartbeats 4000000 in
theorem twice_any (w : World) (a : Option Addr) (c : Nat) (zs : List Int) (h : RowI w a zs) (hl : zs.length ≤ 1000) (hc : zs.length ≤ c) (hc2 : (c : Int) ≤ 9223372036854775807) (v : Int) (hv : v ∈ zs) :
    Calls Tryd.prog 53 #[.slice a zs.length c, .int .i64 v] w fun e w' => e = .returned (.bool (decide (1 < zs.count v))) ∧ w' = w := by
  obtain ⟨g, o, rfl, hg, hcell⟩ := h.resolve_left (fun e => by rw [e] at hv; cases hv)
  have HX := sindex_any w (some ⟨g, o, none⟩) c zs h (by omega) v
  have hidx : idxI zs v = ((zs.idxOf v : Nat) : Int) := if_pos hv
  rw [hidx] at HX
  have hil : zs.idxOf v < zs.length := List.idxOf_lt_length_iff.2 hv
  have hrow : ∀ A, (A = some (⟨g, o + (zs.idxOf v + 1), none⟩ : Addr) ∨ zs.drop (zs.idxOf v + 1) = []) → RowI w A (zs.drop (zs.idxOf v + 1)) := fun A hA => by
    rcases hA with rfl | e
    · refine .inr ⟨g, o + (zs.idxOf v + 1), rfl, hg, fun i x hi => ?_⟩
      rw [List.getElem?_drop] at hi
      have := hcell _ _ hi
      rw [show o + (zs.idxOf v + 1) + i = o + (zs.idxOf v + 1 + i) by omega]
      exact this
    · exact .inl e
  have HC := hid (fun A cc hA => scontains_any w A cc (zs.drop (zs.idxOf v + 1)) (hrow A hA) (by rw [List.length_drop]; omega) v)
  have HD : Hid (decide (1 < zs.count v) = decide (v ∈ zs.drop (zs.idxOf v + 1))) := count_first hv
  have HLD : Hid ((zs.drop (zs.idxOf v + 1)).length = zs.length - (zs.idxOf v + 1)) := List.length_drop
  have HEM : Hid (c = zs.idxOf v + 1 → zs.drop (zs.idxOf v + 1) = []) := fun e => List.drop_of_length_le (by omega)
  rw [HD.out]
  rw [HLD.out] at HC
  have HXX := hid HX
  generalize zs.drop (zs.idxOf v + 1) = ds at HC HEM ⊢
  generalize zs.idxOf v = x at HXX hil HC HEM
  generalize zs.length = n at HXX hil HC hl hc ⊢
  generalize decide (v ∈ ds) = b at HC ⊢
  have HIL := hid hil
  have i1 : (0 : Int) ≤ (x : Int) := by omega
  have i2 : (x : Int) + 1 ≤ (n : Int) := by omega
  have i3 : (n : Int) ≤ (c : Int) := by omega
  have i4 : (x : Int) + 1 ≤ 1000 := by omega
  have w1' : wrap64 ((x : Int) + 1) = (x : Int) + 1 := by rw [← IntWalk.i64_left]; exact IntWalk.i64_in _ (by omega)
  clear HX h hv hidx hrow hcell hg hil hl hc HD HLD
  by_cases hcx : c = x + 1
  · have HC2 := hid (fun cc => HC.out (some ⟨g, o, none⟩) cc (.inr (HEM.out hcx)))
    clear HC HEM
    subst hcx
    go_enter Tryd.func53, Tryd.ntmps53
    go_wp2_with fail
    refine HXX.out.mono ?_
    rintro e w1 ⟨rfl, rfl⟩
    go_wp2_with fail
    refine (HC2.out _).mono ?_
    rintro e w2 ⟨rfl, rfl⟩
    go_wp2
    go_ret
    exact ⟨rfl, rfl⟩
  · have HC2 := hid (fun cc => HC.out (some ⟨g, o + (x + 1), none⟩) cc (.inl rfl))
    clear HC
    go_enter Tryd.func53, Tryd.ntmps53
    go_wp2_with fail
    refine HXX.out.mono ?_
    rintro e w1 ⟨rfl, rfl⟩
    go_wp2_with fail
    refine (HC2.out _).mono ?_
    rintro e w2 ⟨rfl, rfl⟩
    go_wp2
    go_ret
    exact ⟨rfl, rfl⟩
end Go.Proofs.YtmhmlfgikmeejaaDoor
