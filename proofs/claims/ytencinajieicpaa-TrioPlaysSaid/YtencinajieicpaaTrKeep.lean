/- What is there of records behind a crash, and behind an opening that was cut off. -/
import Derived.Test.YtencinajieicpaaTrModel
namespace Go.Proofs.Ytencinajieicpaa
set_option linter.unusedVariables false

theorem goN_ok {act : TS → Option Nat → Bool × TS × Option Nat} {S : Nat → TS} {k : Option Nat} : ∀ t S1 k1, goN act S k t = (true, S1, k1) → ∀ i, i < t → ∃ ki, (act (S i) ki).1 = true ∧ S1 i = (act (S i) ki).2.1 := by
  intro t
  induction t with
  | zero => intro _ _ _ i hi; omega
  | succ t ih =>
    intro S1 k1 h i hi
    have hr := goN_rest (act := act) (S := S) (k := k) t t (Nat.le_refl _)
    cases h0 : goN act S k t with
    | mk b r =>
      obtain ⟨S0, k0⟩ := r
      rw [h0] at hr
      have hr : S0 t = S t := hr
      cases b with
      | false => rw [goN_no h0] at h; cases h
      | true =>
        cases ha : act (S0 t) k0 with
        | mk b q =>
          obtain ⟨s, k2⟩ := q
          rw [goN_yes h0 ha] at h
          simp only [Prod.mk.injEq] at h
          obtain ⟨rfl, rfl, rfl⟩ := h
          by_cases e : i = t
          · subst e
            refine ⟨k0, ?_, ?_⟩
            · rw [← hr, ha]
            · rw [updT_same, ← hr, ha]
          · rw [updT_other _ _ e]
            exact ih S0 k0 h0 i (by omega)
/-- A record on three Tapes that are alike: all have it, or the power was gone, and some have it loose. -/
theorem app_keep {S : Nat → TS} {k : Option Nat} {F z : List Nat} (h : ∀ i, i < 3 → S i = ⟨F, 0, true⟩) (hz : Rec z) (hF : F.length + (z.length + 1) ≤ 65536) :
    ∃ c S' k', tApp S k z = (c, S', k') ∧ ((c = 0 ∧ ∀ i, i < 3 → S' i = ⟨F ++ enc z, 0, true⟩) ∨ (c = 4 ∧ ∀ i, i < 3 → S' i = ⟨F, 0, true⟩ ∨ S' i = ⟨F ++ enc z, (enc z).length, true⟩)) := by
  have h0 := h 0 (by omega)
  have h1 := h 1 (by omega)
  have h2 := h 2 (by omega)
  have hfull : fullT S (z.length + 1) = false := by
    unfold fullT
    rw [List.any_eq_false]
    intro i hi
    have hi := List.mem_range.1 hi
    rw [h i hi]
    simp
    omega
  have hn : ¬ nlv S < 2 := by unfold nlv; rw [h0, h1, h2]; simp [one]
  unfold tApp
  rw [if_neg (by unfold Rec at hz; omega), if_neg hn, hfull]
  have hall := goN_all (act := apA (enc z)) (S := S) (k := k) (fun _ s => s = ⟨F, 0, true⟩) (fun _ s => s = ⟨F, 0, true⟩ ∨ s = ⟨F ++ enc z, (enc z).length, true⟩) (fun i s k hs => by
    subst hs
    unfold apA
    by_cases e : k = some 0
    · simp [e]
    · simp [e]) 3 h fun i s hs => .inl hs
  have hok := goN_ok (act := apA (enc z)) (S := S) (k := k) 3
  cases hg : goN (apA (enc z)) S k 3 with
  | mk b r =>
    obtain ⟨S1, k1⟩ := r
    rw [hg] at hall
    cases b with
    | false => exact ⟨4, S1, k1, by simp, .inr ⟨rfl, hall⟩⟩
    | true =>
      have h3 : ∀ i, i < 3 → S1 i = ⟨F ++ enc z, (enc z).length, true⟩ := fun i hi => by
        obtain ⟨ki, e1, e2⟩ := hok S1 k1 hg i hi
        rw [h i hi] at e1 e2
        unfold apA at e1 e2
        by_cases e : ki = some 0
        · simp [e] at e1
        · simpa [e] using e2
      by_cases e : k1 = some 0
      · refine ⟨4, S1, k1, ?_, .inr ⟨rfl, fun i hi => .inr (h3 i hi)⟩⟩
        have : goN syA S1 k1 3 = (false, S1, k1) := by
          have e0 : updT S1 0 (S1 0) = S1 := by
            funext j
            by_cases ej : j = 0
            · rw [ej, updT_same]
            · rw [updT_other _ _ ej]
          simp only [goN, syA, h3 0 (by omega), e]
          simp only [← h3 0 (by omega), e0, if_true]
        simp [this]
      · have : ∃ S2, goN syA S1 k1 3 = (true, S2, k1) ∧ ∀ i, i < 3 → S2 i = ⟨F ++ enc z, 0, true⟩ := by
          refine ⟨updT (updT (updT S1 0 ⟨F ++ enc z, 0, true⟩) 1 ⟨F ++ enc z, 0, true⟩) 2 ⟨F ++ enc z, 0, true⟩, ?_, fun i hi => ?_⟩
          · simp [goN, syA, h3 0 (by omega), h3 1 (by omega), h3 2 (by omega), e, updT]
          · match i, hi with
            | 0, _ => simp [updT]
            | 1, _ => simp [updT]
            | 2, _ => simp [updT]
        obtain ⟨S2, e2, e3⟩ := this
        exact ⟨0, S2, k1, by simp [e2], .inl ⟨rfl, e3⟩⟩
/-! ### Which records count -/
theorem longer_nil (a : List (List Nat)) : longer [] a = a := by
  unfold longer
  by_cases h : 0 < a.length
  · rw [if_pos (by simpa using h)]
  · obtain rfl : a = [] := List.eq_nil_of_length_eq_zero (by omega)
    rfl
theorem longer_nil2 (a : List (List Nat)) : longer a [] = a := by unfold longer; rw [if_neg (by simp)]
theorem longer_self (a : List (List Nat)) : longer a a = a := by unfold longer; split <;> rfl
theorem longer_more (a : List (List Nat)) (z : List Nat) : longer a (a ++ [z]) = a ++ [z] := by unfold longer; rw [if_pos (by simp)]
theorem longer_less (a : List (List Nat)) (z : List Nat) : longer (a ++ [z]) a = a ++ [z] := by unfold longer; rw [if_neg (by simp)]
theorem bst_two {S : Nat → TS} {R : List (List Nat)} {z : List Nat} {h : Nat → Bool} (hs : ∀ i, i < 3 → (S i).live = true → spl (S i).B = if h i then R ++ [z] else R) (h2 : 2 ≤ nlv S) :
    bst S = if 2 ≤ one ((S 0).live && h 0) + one ((S 1).live && h 1) + one ((S 2).live && h 2) then R ++ [z] else R := by
  have s0 := hs 0 (by omega)
  have s1 := hs 1 (by omega)
  have s2 := hs 2 (by omega)
  unfold nlv at h2
  unfold bst cand
  cases l0 : (S 0).live <;> cases l1 : (S 1).live <;> cases l2 : (S 2).live <;> rw [l0, l1, l2] at h2 <;> simp only [one, Bool.false_eq_true, if_false, if_true] at h2 <;> try omega
  all_goals
    simp only [l0, l1, l2, true_implies] at s0 s1 s2
    cases g0 : h 0 <;> cases g1 : h 1 <;> cases g2 : h 2 <;>
      simp_all [one, com_self, com_more, com_less, longer_nil, longer_nil2, longer_self, longer_more, longer_less]
/-! ### Tapes that have records, and of one more a part -/
structure Prt (R : List (List Nat)) (z : List Nat) (s : TS) : Prop where
  live : s.live = true
  ex : ∃ j, j ≤ (enc z).length ∧ s.B = flt R ++ (enc z).take j ∧ s.loose ≤ j
/-- It is there whole. -/
def whl (R : List (List Nat)) (z : List Nat) (s : TS) : Bool := decide (s.B = flt R ++ enc z)
theorem whl_take {R : List (List Nat)} {z : List Nat} {s : TS} {j : Nat} (hj : j ≤ (enc z).length) (h : s.B = flt R ++ (enc z).take j) : whl R z s = decide (j = (enc z).length) := by
  unfold whl
  rw [h, decide_eq_decide]
  constructor
  · intro e
    have := congrArg List.length e
    rw [List.length_append, List.length_append, List.length_take] at this
    omega
  · intro e
    rw [e, List.take_length]
theorem Prt.spl {R : List (List Nat)} {z : List Nat} {s : TS} (h : Prt R z s) (hR : ∀ y ∈ R, Rec y) (hz : Rec z) : spl s.B = if whl R z s then R ++ [z] else R := by
  obtain ⟨j, hj, hB, _⟩ := h.ex
  rw [whl_take hj hB, hB, spl_flt hR]
  by_cases e : j = (enc z).length
  · rw [e, List.take_length]
    have := spl_enc hz []
    rw [List.append_nil] at this
    rw [this]
    simp [spl_nil]
  · rw [spl_part hz (by omega)]
    simp [e]
theorem Prt.crash {R : List (List Nat)} {z : List Nat} {s : TS} (h : Prt R z s) (x : Int) : Prt R z (s.crash x) ∧ (s.crash x).loose = 0 ∧ (whl R z (s.crash x) = true → whl R z s = true) ∧ (s.loose = 0 → s.crash x = s) := by
  obtain ⟨j, hj, hB, hl⟩ := h.ex
  obtain ⟨q, hq, hql⟩ : ∃ q, min (max x 0).toNat s.loose = q ∧ q ≤ s.loose := ⟨_, rfl, by omega⟩
  have hBl : s.B.length = (flt R).length + j := by rw [hB, List.length_append, List.length_take]; omega
  have hc : (s.crash x).B = flt R ++ (enc z).take (j - s.loose + q) := by
    unfold TS.crash
    show s.B.take (s.B.length - s.loose + min (max x 0).toNat s.loose) = _
    rw [hq, hBl, hB, List.take_append, List.take_take]
    rw [List.take_of_length_le (by omega)]
    congr 2
    omega
  refine ⟨⟨h.live, j - s.loose + q, by omega, hc, Nat.zero_le _⟩, rfl, fun hw => ?_, fun h0 => ?_⟩
  · rw [whl_take (by omega) hc, decide_eq_true_iff] at hw
    rw [whl_take hj hB, decide_eq_true_iff]
    omega
  · obtain ⟨B, lo, lv⟩ := s
    have h0 : lo = 0 := h0
    subst h0
    unfold TS.crash
    simp
/-- Opened, as far as the power goes: best is R and z. -/
theorem Prt.fix {R : List (List Nat)} {z : List Nat} {s : TS} (h : Prt R z s) (hR : ∀ y ∈ R, Rec y) (hz : Rec z) (k : Option Nat) : Prt R z (fxA (R ++ [z]) s k).2.1 ∧ (whl R z s = true → (fxA (R ++ [z]) s k).2.1 = s) := by
  have hb : flt (R ++ [z]) = flt R ++ enc z := by rw [flt_append, flt_one]
  unfold fxA
  rw [hb]
  by_cases hw : s.B = flt R ++ enc z
  · rw [if_neg fun e => e.2 hw]
    exact ⟨h, fun _ => rfl⟩
  · rw [if_pos ⟨h.live, hw⟩]
    have hwf : whl R z s = false := by unfold whl; exact decide_eq_false hw
    have hn : com (Go.Proofs.Ytencinajieicpaa.spl s.B) (R ++ [z]) = R := by
      rw [h.spl hR hz, hwf]
      exact com_more R [z]
    rw [hn]
    obtain ⟨j, hj, hB, hl⟩ := h.ex
    have ht : s.B.take (flt R).length = flt R := by rw [hB, List.take_append]; simp
    have hd : (flt R ++ enc z).drop (flt R).length = enc z := by rw [List.drop_append]; simp
    have hln : (flt R ++ enc z).length - (flt R).length = (enc z).length := by rw [List.length_append]; omega
    refine ⟨?_, fun e => by rw [hwf] at e; cases e⟩
    simp only [ht, hd, hln]
    split
    · exact h
    · split
      · exact ⟨rfl, 0, Nat.zero_le _, by simp, Nat.le_refl _⟩
      · split
        · exact ⟨rfl, (enc z).length, Nat.le_refl _, by simp, Nat.le_refl _⟩
        · exact ⟨rfl, (enc z).length, Nat.le_refl _, by simp, Nat.zero_le _⟩
/-- .. best is R alone. -/
theorem Prt.fix0 {R : List (List Nat)} {z : List Nat} {s : TS} (h : Prt R z s) (hR : ∀ y ∈ R, Rec y) (hz : Rec z) (k : Option Nat) : Prt R z (fxA R s k).2.1 ∧ (whl R z (fxA R s k).2.1 = true → whl R z s = true) := by
  unfold fxA
  by_cases hw : s.B = flt R
  · rw [if_neg fun e => e.2 hw]
    exact ⟨h, id⟩
  · rw [if_pos ⟨h.live, hw⟩]
    have hn : com (Go.Proofs.Ytencinajieicpaa.spl s.B) R = R := by
      rw [h.spl hR hz]
      cases whl R z s
      · exact com_self R
      · exact com_less R [z]
    rw [hn]
    obtain ⟨j, hj, hB, hl⟩ := h.ex
    have ht : s.B.take (flt R).length = flt R := by rw [hB, List.take_append]; simp
    have hd : (flt R).drop (flt R).length = [] := by simp
    have hno : ∀ l lv, whl R z ⟨flt R, l, lv⟩ = false := fun l lv => by
      have := whl_take (R := R) (z := z) (s := ⟨flt R, l, lv⟩) (j := 0) (Nat.zero_le _) (by simp)
      rw [this]
      simp [enc]
    have hp : Prt R z ⟨flt R, 0, true⟩ := ⟨rfl, 0, Nat.zero_le _, by simp, Nat.le_refl _⟩
    simp only [ht, hd, Nat.sub_self, List.append_nil]
    split
    · exact ⟨h, id⟩
    · split
      · exact ⟨hp, fun e => by rw [hno] at e; cases e⟩
      · split
        · exact ⟨hp, fun e => by rw [hno] at e; cases e⟩
        · exact ⟨hp, fun e => by rw [hno] at e; cases e⟩
end Go.Proofs.Ytencinajieicpaa
