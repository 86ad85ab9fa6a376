/- Openings, whole and cut off; mending. -/
import Derived.Test.YtencinajieicpaaTrKeep
namespace Go.Proofs.Ytencinajieicpaa
set_option linter.unusedVariables false

/-- On how many Tapes it is whole. -/
def wc (R : List (List Nat)) (z : List Nat) (S : Nat → TS) : Nat := one (whl R z (S 0)) + one (whl R z (S 1)) + one (whl R z (S 2))
/-- Three live Tapes have the records R, and of z a part; W counts. -/
structure InvO (R : List (List Nat)) (z : List Nat) (W : List (List Nat)) (S : Nat → TS) : Prop where
  part : ∀ i, i < 3 → Prt R z (S i)
  sure : ∀ i, i < 3 → (S i).loose = 0
  cnt : (W = R ++ [z] ∧ 2 ≤ wc R z S) ∨ (W = R ∧ wc R z S ≤ 1)
theorem nlv_all {S : Nat → TS} (h : ∀ i, i < 3 → (S i).live = true) : nlv S = 3 := by
  unfold nlv
  rw [h 0 (by omega), h 1 (by omega), h 2 (by omega)]
  rfl
theorem one_le (b : Bool) : one b ≤ 1 := by cases b <;> decide
theorem one_mono {a b : Bool} (h : a = true → b = true) : one a ≤ one b := by
  cases a
  · exact Nat.zero_le _
  · rw [h rfl]; exact Nat.le_refl _
theorem InvO.best {R : List (List Nat)} {z : List Nat} {W : List (List Nat)} {S : Nat → TS} (h : InvO R z W S) (hR : ∀ y ∈ R, Rec y) (hz : Rec z) : bst S = W := by
  have hl : ∀ i, i < 3 → (S i).live = true := fun i hi => (h.part i hi).live
  rw [bst_two (h := fun i => whl R z (S i)) (fun i hi _ => (h.part i hi).spl hR hz) (by rw [nlv_all hl]; omega)]
  rw [hl 0 (by omega), hl 1 (by omega), hl 2 (by omega)]
  simp only [Bool.true_and]
  have hc := h.cnt
  unfold wc at hc
  rcases hc with ⟨rfl, e⟩ | ⟨rfl, e⟩
  · rw [if_pos e]
  · rw [if_neg (by omega)]
theorem InvO.open {R : List (List Nat)} {z : List Nat} {W : List (List Nat)} {S : Nat → TS} (h : InvO R z W S) (hR : ∀ y ∈ R, Rec y) (hz : Rec z) (k : Option Nat) :
    ∃ c recs S1 k1, tOpn S k = (c, recs, S1, k1) ∧ ((c = 0 ∧ recs = W) ∨ (c = 4 ∧ recs = [])) ∧ ∀ X : Nat → Int, InvO R z W fun i => (S1 i).crash (X i) := by
  have hl : ∀ i, i < 3 → (S i).live = true := fun i hi => (h.part i hi).live
  have hb := h.best hR hz
  have key : ∀ X : Nat → Int, InvO R z W fun i => ((goN (fxA W) S k 3).2.1 i).crash (X i) := by
    intro X
    rcases h.cnt with ⟨rfl, e⟩ | ⟨rfl, e⟩
    · have ha := goN_all (act := fxA (R ++ [z])) (S := S) (k := k) (fun i s => Prt R z s ∧ s = S i) (fun i s => Prt R z s ∧ (whl R z (S i) = true → s = S i)) (fun i s k hs => by
        obtain ⟨hs, rfl⟩ := hs
        exact hs.fix hR hz k) 3 (fun i hi => ⟨h.part i hi, rfl⟩) fun i s hs => ⟨hs.1, fun _ => hs.2⟩
      refine ⟨fun i hi => ((ha i hi).1.crash (X i)).1, fun i hi => rfl, .inl ⟨rfl, ?_⟩⟩
      have hw : ∀ i, i < 3 → whl R z (S i) = true → whl R z (((goN (fxA (R ++ [z])) S k 3).2.1 i).crash (X i)) = true := fun i hi hw => by
        have e1 := (ha i hi).2 hw
        rw [e1, ((h.part i hi).crash (X i)).2.2.2 (h.sure i hi)]
        exact hw
      unfold wc at e ⊢
      have a0 := one_mono (hw 0 (by omega))
      have a1 := one_mono (hw 1 (by omega))
      have a2 := one_mono (hw 2 (by omega))
      dsimp only
      omega
    · have ha := goN_all (act := fxA W) (S := S) (k := k) (fun i s => Prt W z s ∧ s = S i) (fun i s => Prt W z s ∧ (whl W z s = true → whl W z (S i) = true)) (fun i s k hs => by
        obtain ⟨hs, rfl⟩ := hs
        exact hs.fix0 hR hz k) 3 (fun i hi => ⟨h.part i hi, rfl⟩) fun i s hs => ⟨hs.1, fun e => by rw [← hs.2]; exact e⟩
      refine ⟨fun i hi => ((ha i hi).1.crash (X i)).1, fun i hi => rfl, .inr ⟨rfl, ?_⟩⟩
      have hw : ∀ i, i < 3 → whl W z (((goN (fxA W) S k 3).2.1 i).crash (X i)) = true → whl W z (S i) = true := fun i hi hw => (ha i hi).2 (((ha i hi).1.crash (X i)).2.2.1 hw)
      unfold wc at e ⊢
      have a0 := one_mono (hw 0 (by omega))
      have a1 := one_mono (hw 1 (by omega))
      have a2 := one_mono (hw 2 (by omega))
      dsimp only
      omega
  unfold tOpn
  rw [if_neg (by rw [nlv_all hl]; omega), hb]
  cases hg : goN (fxA W) S k 3 with
  | mk b r =>
    obtain ⟨S1, k1⟩ := r
    rw [hg] at key
    cases b with
    | false => exact ⟨4, [], S1, k1, rfl, .inr ⟨rfl, rfl⟩, key⟩
    | true => exact ⟨0, W, S1, k1, rfl, .inl ⟨rfl, rfl⟩, key⟩
/-! ### With no Fuse -/
theorem fx_none (best : List (List Nat)) (s : TS) : ∃ s', fxA best s none = (true, s', none) ∧ (s.live = true → s'.B = flt best ∧ s'.live = true ∧ (s.loose = 0 → s'.loose = 0)) ∧ (s.live = false → s' = s) := by
  unfold fxA
  by_cases h : s.live = true ∧ ¬ s.B = flt best
  · rw [if_pos h]
    refine ⟨⟨s.B.take (flt (com (spl s.B) best)).length ++ (flt best).drop (flt (com (spl s.B) best)).length, 0, true⟩, by simp [less], fun _ => ⟨?_, rfl, fun _ => rfl⟩, fun e => by rw [h.1] at e; cases e⟩
    obtain ⟨t1, e1⟩ := flt_spl s.B
    obtain ⟨t2, e2⟩ := com_left (spl s.B) best
    obtain ⟨t3, e3⟩ := com_right (spl s.B) best
    generalize com (spl s.B) best = cc at e2 e3
    have hB : s.B = flt cc ++ (flt t2 ++ t1) := by rw [← List.append_assoc, ← flt_append, ← e2]; exact e1
    have hb : flt best = flt cc ++ flt t3 := by rw [← flt_append, ← e3]
    show s.B.take (flt cc).length ++ (flt best).drop (flt cc).length = flt best
    rw [hb, hB, List.take_append, List.drop_append]
    simp
  · rw [if_neg h]
    refine ⟨s, rfl, fun hl => ⟨?_, hl, id⟩, fun _ => rfl⟩
    by_cases e : s.B = flt best
    · exact e
    · exact absurd ⟨hl, e⟩ h
theorem opn_none {S : Nat → TS} (hl : 2 ≤ nlv S) : ∃ S', tOpn S none = (0, bst S, S', none) ∧ ∀ i, i < 3 → ((S i).live = true → (S' i).B = flt (bst S) ∧ (S' i).live = true ∧ ((S i).loose = 0 → (S' i).loose = 0)) ∧ ((S i).live = false → S' i = S i) := by
  obtain ⟨s0, a0, b0⟩ := fx_none (bst S) (S 0)
  obtain ⟨s1, a1, b1⟩ := fx_none (bst S) (S 1)
  obtain ⟨s2, a2, b2⟩ := fx_none (bst S) (S 2)
  have h1 : goN (fxA (bst S)) S none 1 = (true, updT S 0 s0, none) := goN_yes (t := 0) rfl a0
  have h2 : goN (fxA (bst S)) S none 2 = (true, updT (updT S 0 s0) 1 s1, none) := goN_yes (t := 1) h1 (by rw [updT_other _ _ (by omega)]; exact a1)
  have h3 : goN (fxA (bst S)) S none 3 = (true, updT (updT (updT S 0 s0) 1 s1) 2 s2, none) := goN_yes (t := 2) h2 (by rw [updT_other _ _ (by omega), updT_other _ _ (by omega)]; exact a2)
  refine ⟨updT (updT (updT S 0 s0) 1 s1) 2 s2, ?_, fun i hi => ?_⟩
  · unfold tOpn
    rw [if_neg (by omega), h3]
  · match i, hi with
    | 0, _ => rw [updT_other _ _ (by omega), updT_other _ _ (by omega), updT_same]; exact b0
    | 1, _ => rw [updT_other _ _ (by omega), updT_same]; exact b1
    | 2, _ => rw [updT_same]; exact b2
theorem mnd_none {S : Nat → TS} {i j : Nat} (hi : i < 3) (hl : (S i).live = true) (hj : frm S i = some j) : tMnd S none (i : Nat) = (0, updT S i ⟨(S j).B, 0, true⟩, none) := by
  unfold tMnd
  rw [Int.toNat_natCast, if_neg (by rw [hl]; simp; omega), hj]
  simp [less]
end Go.Proofs.Ytencinajieicpaa
