/- What is done to three Tapes: appended to, opened, mended; what a crash leaves of it. -/
import Derived.Test.YtencinajieicpaaTrMath
namespace Go.Proofs.Ytencinajieicpaa
set_option linter.unusedVariables false

/-! ### One Tape after the other -/
def updT (S : Nat → TS) (i : Nat) (s : TS) (j : Nat) : TS := if j = i then s else S j
theorem updT_same (S : Nat → TS) (i : Nat) (s : TS) : updT S i s i = s := by unfold updT; rw [if_pos rfl]
theorem updT_other (S : Nat → TS) {i j : Nat} (s : TS) (h : ¬ j = i) : updT S i s j = S j := by unfold updT; rw [if_neg h]
/-- The first t Tapes, one after the other; false: the power was gone. -/
def goN (act : TS → Option Nat → Bool × TS × Option Nat) (S : Nat → TS) (k : Option Nat) : Nat → Bool × (Nat → TS) × Option Nat
  | 0 => (true, S, k)
  | t + 1 => match goN act S k t with
    | (true, S1, k1) => match act (S1 t) k1 with
      | (b, s, k2) => (b, updT S1 t s, k2)
    | (false, S1, k1) => (false, S1, k1)
theorem goN_yes {act : TS → Option Nat → Bool × TS × Option Nat} {S S1 : Nat → TS} {k k1 k2 : Option Nat} {t : Nat} {b : Bool} {s : TS} (h : goN act S k t = (true, S1, k1)) (ha : act (S1 t) k1 = (b, s, k2)) : goN act S k (t + 1) = (b, updT S1 t s, k2) := by
  rw [goN, h]
  simp only [ha]
theorem goN_no {act : TS → Option Nat → Bool × TS × Option Nat} {S S1 : Nat → TS} {k k1 : Option Nat} {t : Nat} (h : goN act S k t = (false, S1, k1)) : goN act S k (t + 1) = (false, S1, k1) := by
  rw [goN, h]
/-- Those behind are as they were. -/
theorem goN_rest {act : TS → Option Nat → Bool × TS × Option Nat} {S : Nat → TS} {k : Option Nat} : ∀ t i, t ≤ i → (goN act S k t).2.1 i = S i := by
  intro t
  induction t with
  | zero => intro i _; rfl
  | succ t ih =>
    intro i hi
    have := ih i (by omega)
    cases h : goN act S k t with
    | mk b r =>
      obtain ⟨S1, k1⟩ := r
      rw [h] at this
      cases b with
      | false => rw [goN_no h]; exact this
      | true =>
        cases ha : act (S1 t) k1 with
        | mk b q =>
          obtain ⟨s, k2⟩ := q
          rw [goN_yes h ha]
          show updT S1 t s i = _
          rw [updT_other _ _ (by omega)]
          exact this
/-- What holds of each Tape ahead, and is kept by a step. -/
theorem goN_all {act : TS → Option Nat → Bool × TS × Option Nat} {S : Nat → TS} {k : Option Nat} (P Q : Nat → TS → Prop) (hP : ∀ i s k, P i s → Q i (act s k).2.1) : ∀ t, (∀ i, i < t → P i (S i)) → (∀ i s, P i s → Q i s) → ∀ i, i < t → Q i ((goN act S k t).2.1 i) := by
  intro t
  induction t with
  | zero => intro _ _ i hi; omega
  | succ t ih =>
    intro h0 hq i hi
    have ih := ih (fun j hj => h0 j (by omega)) hq
    have hr := goN_rest (act := act) (S := S) (k := k) t t (Nat.le_refl _)
    cases h : goN act S k t with
    | mk b r =>
      obtain ⟨S1, k1⟩ := r
      rw [h] at hr ih
      cases b with
      | false =>
        rw [goN_no h]
        by_cases e : i = t
        · subst e
          show Q i (S1 i)
          have hr : S1 i = S i := hr
          rw [hr]
          exact hq _ _ (h0 i hi)
        · exact ih i (by omega)
      | true =>
        cases ha : act (S1 t) k1 with
        | mk b q =>
          obtain ⟨s, k2⟩ := q
          rw [goN_yes h ha]
          by_cases e : i = t
          · subst e
            show Q i (updT S1 i s i)
            rw [updT_same]
            have hr : S1 i = S i := hr
            have := hP i (S1 i) k1 (by rw [hr]; exact h0 i hi)
            rw [ha] at this
            exact this
          · show Q i (updT S1 t s i)
            rw [updT_other _ _ e]
            exact ih i (by omega)
/-- b is appended, if the Tape is live. -/
def apA (z : List Nat) (s : TS) (k : Option Nat) : Bool × TS × Option Nat :=
  if s.live then (if k = some 0 then (false, s, k) else (true, ⟨s.B ++ z, s.loose + z.length, true⟩, less k)) else (true, s, k)
/-- It is synced, if it is live. -/
def syA (s : TS) (k : Option Nat) : Bool × TS × Option Nat :=
  if s.live then (if k = some 0 then (false, s, k) else (true, ⟨s.B, 0, true⟩, k)) else (true, s, k)
/-- How many Tapes are live. -/
def one (b : Bool) : Nat := if b then 1 else 0
def nlv (S : Nat → TS) : Nat := one (S 0).live + one (S 1).live + one (S 2).live
/-- One of the live ones has no room for n bytes more. -/
def fullT (S : Nat → TS) (n : Nat) : Bool := (List.range 3).any fun i => (S i).live && decide (65536 < (S i).B.length + n)
/-- Append. -/
def tApp (S : Nat → TS) (k : Option Nat) (z : List Nat) : Int × (Nat → TS) × Option Nat :=
  if z.length < 1 ∨ 250 < z.length then (1, S, k)
  else if nlv S < 2 then (8, S, k)
  else if fullT S (z.length + 1) then (7, S, k)
  else match goN (apA (enc z)) S k 3 with
    | (false, S1, k1) => (4, S1, k1)
    | (true, S1, k1) => match goN syA S1 k1 3 with
      | (false, S2, k2) => (4, S2, k2)
      | (true, S2, k2) => (0, S2, k2)
/-! ### What two rows have alike -/
def com : List (List Nat) → List (List Nat) → List (List Nat)
  | a :: l, b :: m => if a = b then a :: com l m else []
  | [], _ => []
  | _ :: _, [] => []
theorem com_left : ∀ a b : List (List Nat), ∃ t, a = com a b ++ t := by
  intro a
  induction a with
  | nil => intro b; exact ⟨[], by cases b <;> rfl⟩
  | cons x l ih =>
    intro b
    cases b with
    | nil => exact ⟨x :: l, rfl⟩
    | cons y m =>
      by_cases e : x = y
      · obtain ⟨t, h⟩ := ih m
        exact ⟨t, by rw [com, if_pos e, List.cons_append, ← h]⟩
      · exact ⟨x :: l, by rw [com, if_neg e]; rfl⟩
theorem com_comm : ∀ a b : List (List Nat), com a b = com b a := by
  intro a
  induction a with
  | nil => intro b; cases b <;> rfl
  | cons x l ih =>
    intro b
    cases b with
    | nil => rfl
    | cons y m =>
      by_cases e : x = y
      · rw [com, com, if_pos e, if_pos e.symm, ih m, e]
      · rw [com, com, if_neg e, if_neg fun h => e h.symm]
theorem com_right (a b : List (List Nat)) : ∃ t, b = com a b ++ t := by
  rw [com_comm]; exact com_left b a
theorem com_self : ∀ a : List (List Nat), com a a = a := by
  intro a
  induction a with
  | nil => rfl
  | cons x l ih => rw [com, if_pos rfl, ih]
theorem com_more : ∀ (a t : List (List Nat)), com a (a ++ t) = a := by
  intro a
  induction a with
  | nil => intro t; cases t <;> rfl
  | cons x l ih => intro t; rw [List.cons_append, com, if_pos rfl, ih]
theorem com_less (a t : List (List Nat)) : com (a ++ t) a = a := by rw [com_comm]; exact com_more a t
/-- The records that count. -/
def longer (a b : List (List Nat)) : List (List Nat) := if a.length < b.length then b else a
def cand (S : Nat → TS) (i k : Nat) : List (List Nat) := if (S i).live && (S k).live then com (spl (S i).B) (spl (S k).B) else []
def bst (S : Nat → TS) : List (List Nat) := longer (longer (longer [] (cand S 1 0)) (cand S 2 0)) (cand S 2 1)
/-- A Tape is made to have just these. -/
def fxA (best : List (List Nat)) (s : TS) (k : Option Nat) : Bool × TS × Option Nat :=
  if s.live = true ∧ ¬ s.B = flt best then
    let n := (flt (com (spl s.B) best)).length
    if k = some 0 then (false, s, k)
    else if less k = some 0 then (false, ⟨s.B.take n, 0, true⟩, less k)
    else if less (less k) = some 0 then (false, ⟨s.B.take n ++ (flt best).drop n, (flt best).length - n, true⟩, less (less k))
    else (true, ⟨s.B.take n ++ (flt best).drop n, 0, true⟩, less (less k))
  else (true, s, k)
/-- Open. -/
def tOpn (S : Nat → TS) (k : Option Nat) : Int × List (List Nat) × (Nat → TS) × Option Nat :=
  if nlv S < 2 then (8, [], S, k)
  else match goN (fxA (bst S)) S k 3 with
    | (false, S1, k1) => (4, [], S1, k1)
    | (true, S1, k1) => (0, bst S, S1, k1)
/-- The first live Tape but i. -/
def frm (S : Nat → TS) (i : Nat) : Option Nat := (List.range 3).find? fun k => decide (¬ k = i) && (S k).live
/-- Mend. -/
def tMnd (S : Nat → TS) (k : Option Nat) (x : Int) : Int × (Nat → TS) × Option Nat :=
  if x < 0 ∨ 2 < x ∨ (S x.toNat).live = false then (1, S, k)
  else match frm S x.toNat with
    | none => (8, S, k)
    | some j =>
      if k = some 0 then (4, S, k)
      else if less k = some 0 then (4, updT S x.toNat ⟨[], 0, true⟩, less k)
      else if less (less k) = some 0 then (4, updT S x.toNat ⟨(S j).B, (S j).B.length, true⟩, less (less k))
      else (0, updT S x.toNat ⟨(S j).B, 0, true⟩, less (less k))
/-! ### With no Fuse -/
theorem less_none : less none = none := rfl
/-- Each record is on each live Tape. -/
theorem app_none {S : Nat → TS} {z : List Nat} (hz : Rec z) (hl : 2 ≤ nlv S) (hf : ∀ i, i < 3 → (S i).live = true → (S i).B.length + (z.length + 1) ≤ 65536) :
    ∃ S', tApp S none z = (0, S', none) ∧ ∀ i, i < 3 → S' i = if (S i).live then ⟨(S i).B ++ enc z, 0, true⟩ else S i := by
  have hfull : fullT S (z.length + 1) = false := by
    unfold fullT
    rw [List.any_eq_false]
    intro i hi
    have hi := List.mem_range.1 hi
    cases h : (S i).live with
    | false => simp
    | true => have := hf i hi h; simp; omega
  have e0 : ∀ s : TS, apA (enc z) s none = (true, if s.live then ⟨s.B ++ enc z, s.loose + (enc z).length, true⟩ else s, none) := fun s => by
    unfold apA
    cases s.live <;> rfl
  have e1 : ∀ s : TS, syA s none = (true, if s.live then ⟨s.B, 0, true⟩ else s, none) := fun s => by
    unfold syA
    cases s.live <;> rfl
  refine ⟨_, by
    unfold tApp
    rw [if_neg (by unfold Rec at hz; omega), if_neg (by omega), hfull]
    simp only [goN, e0, e1]
    rfl, fun i hi => ?_⟩
  match i, hi with
  | 0, _ => cases h : (S 0).live <;> simp [updT, h]
  | 1, _ => cases h : (S 1).live <;> simp [updT, h]
  | 2, _ => cases h : (S 2).live <;> simp [updT, h]
end Go.Proofs.Ytencinajieicpaa
