/- Records and the bytes they are; three Tapes: what is appended, opened, mended; what is there behind a crash. -/
import Derived.Test.YtencinajieicpaaTpFace
namespace Go.Proofs.Ytencinajieicpaa
set_option linter.unusedVariables false

/-! ### Records -/
def enc (z : List Nat) : List Nat := z.length :: z
/-- Records as bytes. -/
def flt (l : List (List Nat)) : List Nat := (l.map enc).flatten
def Rec (z : List Nat) : Prop := 1 ≤ z.length ∧ z.length ≤ 250
theorem enc_length (z : List Nat) : (enc z).length = z.length + 1 := rfl
theorem flt_nil : flt [] = [] := rfl
theorem flt_cons (z : List Nat) (l : List (List Nat)) : flt (z :: l) = enc z ++ flt l := by simp [flt]
theorem flt_append (l m : List (List Nat)) : flt (l ++ m) = flt l ++ flt m := by simp [flt]
theorem flt_one (z : List Nat) : flt [z] = enc z := by simp [flt]
/-- The records that bytes begin with. -/
def splN : Nat → List Nat → List (List Nat)
  | 0, _ => []
  | _ + 1, [] => []
  | n + 1, c :: b => if c = 0 ∨ 250 < c ∨ b.length < c then [] else b.take c :: splN n (b.drop c)
def spl (b : List Nat) : List (List Nat) := splN b.length b
theorem splN_spl : ∀ n (b : List Nat), b.length ≤ n → splN n b = spl b := by
  have key : ∀ n m (b : List Nat), b.length ≤ n → b.length ≤ m → splN n b = splN m b := by
    intro n
    induction n with
    | zero =>
      intro m b h _
      obtain rfl := List.eq_nil_of_length_eq_zero (Nat.le_zero.1 h)
      cases m <;> rfl
    | succ n ih =>
      intro m b h hm
      match b, m with
      | [], 0 => rfl
      | [], m + 1 => rfl
      | c :: b, m + 1 =>
        simp only [List.length_cons] at h hm
        have := ih m (b.drop c) (by rw [List.length_drop]; omega) (by rw [List.length_drop]; omega)
        simp only [splN, this]
  exact fun n b h => key n b.length b h (Nat.le_refl _)
theorem spl_nil : spl [] = [] := rfl
theorem spl_cons (c : Nat) (b : List Nat) : spl (c :: b) = if c = 0 ∨ 250 < c ∨ b.length < c then [] else b.take c :: spl (b.drop c) := by
  unfold spl
  rw [List.length_cons]
  simp only [splN]
  have := splN_spl b.length (b.drop c) (by rw [List.length_drop]; omega)
  unfold spl at this
  rw [this]
theorem spl_enc {z : List Nat} (hz : Rec z) (t : List Nat) : spl (enc z ++ t) = z :: spl t := by
  unfold enc
  rw [List.cons_append, spl_cons, if_neg (by unfold Rec at hz; rw [List.length_append]; omega)]
  simp
theorem spl_flt {l : List (List Nat)} (hl : ∀ z ∈ l, Rec z) (t : List Nat) : spl (flt l ++ t) = l ++ spl t := by
  induction l with
  | nil => rfl
  | cons z l ih =>
    rw [flt_cons, List.append_assoc, spl_enc (hl z (List.mem_cons_self ..)), ih fun y hy => hl y (List.mem_cons_of_mem _ hy)]
    rfl
theorem spl_part {z : List Nat} (hz : Rec z) {j : Nat} (hj : j < (enc z).length) : spl ((enc z).take j) = [] := by
  rw [enc_length] at hj
  cases j with
  | zero => rfl
  | succ j =>
    unfold enc
    rw [List.take_succ_cons, spl_cons, if_pos]
    right; right
    rw [List.length_take]
    omega
theorem spl_recs : ∀ n (b : List Nat), b.length ≤ n → ∀ z ∈ spl b, Rec z := by
  intro n
  induction n with
  | zero =>
    intro b h z hz
    obtain rfl := List.eq_nil_of_length_eq_zero (Nat.le_zero.1 h)
    cases hz
  | succ n ih =>
    intro b h z hz
    match b with
    | [] => cases hz
    | c :: b =>
      rw [spl_cons] at hz
      simp only [List.length_cons] at h
      split at hz
      · cases hz
      · rcases List.mem_cons.1 hz with rfl | hz
        · unfold Rec
          rw [List.length_take]
          omega
        · exact ih (b.drop c) (by rw [List.length_drop]; omega) z hz
theorem spl_rec {b z : List Nat} (hz : z ∈ spl b) : Rec z := spl_recs b.length b (Nat.le_refl _) z hz
/-- Bytes are the records that they begin with, and a rest that begins with none. -/
theorem spl_rest : ∀ n (b : List Nat), b.length ≤ n → ∃ t, b = flt (spl b) ++ t ∧ spl t = [] := by
  intro n
  induction n with
  | zero =>
    intro b h
    obtain rfl := List.eq_nil_of_length_eq_zero (Nat.le_zero.1 h)
    exact ⟨[], rfl, rfl⟩
  | succ n ih =>
    intro b h
    match b with
    | [] => exact ⟨[], rfl, rfl⟩
    | c :: b =>
      simp only [List.length_cons] at h
      by_cases hc : c = 0 ∨ 250 < c ∨ b.length < c
      · rw [spl_cons, if_pos hc]
        exact ⟨c :: b, rfl, by rw [spl_cons, if_pos hc]⟩
      · obtain ⟨t, h1, h2⟩ := ih (b.drop c) (by rw [List.length_drop]; omega)
        refine ⟨t, ?_, h2⟩
        rw [spl_cons, if_neg hc, flt_cons, List.append_assoc, ← h1]
        unfold enc
        have hl : (b.take c).length = c := by rw [List.length_take]; omega
        rw [hl, List.cons_append, List.take_append_drop]
theorem flt_spl (b : List Nat) : ∃ t, b = flt (spl b) ++ t := by
  obtain ⟨t, h, _⟩ := spl_rest b.length b (Nat.le_refl _)
  exact ⟨t, h⟩
theorem flt_take (l : List (List Nat)) (n : Nat) : ∃ t, flt l = flt (l.take n) ++ t := ⟨flt (l.drop n), by rw [← flt_append, List.take_append_drop]⟩
/-- A beginning of records' bytes begins with a beginning of them. -/
theorem spl_begin : ∀ {l : List (List Nat)}, (∀ z ∈ l, Rec z) → ∀ k, ∃ m, m ≤ l.length ∧ spl ((flt l).take k) = l.take m ∧ (flt (l.take m)).length ≤ k ∧ (∀ z, l[m]? = some z → k < (flt (l.take m)).length + z.length + 1) := by
  intro l
  induction l with
  | nil => intro _ k; exact ⟨0, Nat.le_refl _, by simp [flt, spl_nil], Nat.zero_le _, fun z hz => by simp at hz⟩
  | cons y l ih =>
    intro hl k
    have hy := hl y (List.mem_cons_self ..)
    by_cases hk : k < (enc y).length
    · refine ⟨0, Nat.zero_le _, ?_, Nat.zero_le _, fun z hz => ?_⟩
      · rw [flt_cons, List.take_append, show k - (enc y).length = 0 by omega, List.take_zero, List.append_nil, spl_part hy hk]
        rfl
      · have : y = z := by simpa using hz
        subst this
        rw [enc_length] at hk
        simp only [List.take_zero, flt_nil, List.length_nil]
        omega
    · obtain ⟨m, h1, h2, h3, h4⟩ := ih (fun z hz => hl z (List.mem_cons_of_mem _ hz)) (k - (enc y).length)
      refine ⟨m + 1, by simpa using h1, ?_, ?_, fun z hz => ?_⟩
      · rw [flt_cons, List.take_append, List.take_of_length_le (by omega), spl_enc hy, h2]
        rfl
      · rw [List.take_succ_cons, flt_cons, List.length_append]
        omega
      · rw [List.take_succ_cons, flt_cons, List.length_append]
        have := h4 z (by simpa using hz)
        omega
end Go.Proofs.Ytencinajieicpaa
