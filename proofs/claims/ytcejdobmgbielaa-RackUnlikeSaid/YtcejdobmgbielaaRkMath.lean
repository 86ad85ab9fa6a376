/- What a Take does to the free slots; disks that are filled alike. -/
import Derived.Test.YtcejdobmgbielaaRkAwake
namespace Go.Proofs.Ytcejdobmgbielaa
open Go.RowKit
set_option linter.unusedVariables false

theorem fst0_some (U : Nat → Bool) : ∀ k i j, fst0 U k i = some j → i ≤ j ∧ j < i + k ∧ U j = false := by
  intro k
  induction k with
  | zero => intro i j h; cases h
  | succ k ih =>
    intro i j h
    cases e : U i with
    | true =>
      rw [fst0_yes k e] at h
      have := ih _ _ h
      exact ⟨by omega, by omega, this.2.2⟩
    | false =>
      rw [fst0_no k e] at h
      injection h with h
      subst h
      exact ⟨Nat.le_refl _, by omega, e⟩
theorem fst0_full (U : Nat → Bool) : ∀ k i, fst0 U k i = none → ∀ s, i ≤ s → s < i + k → U s = true := by
  intro k
  induction k with
  | zero => intro i h s h1 h2; omega
  | succ k ih =>
    intro i h s h1 h2
    cases e : U i with
    | true =>
      rw [fst0_yes k e] at h
      by_cases hs : s = i
      · rw [hs, e]
      · exact ih _ h s (by omega) (by omega)
    | false => rw [fst0_no k e] at h; cases h
theorem us_full {U : Nat → Bool} : ∀ n, (∀ s, s < n → U s = true) → (us U n).length = n := by
  intro n
  induction n with
  | zero => intro _; rfl
  | succ n ih =>
    intro h
    rw [us_yes (h n (Nat.lt_succ_self n)), List.length_append, ih fun s hs => h s (by omega)]
    rfl
theorem us_one {U : Nat → Bool} {k : Nat} (hk : U k = false) : ∀ n, (us (updB U k true) n).length = (us U n).length + if k < n then 1 else 0 := by
  intro n
  induction n with
  | zero => rfl
  | succ n ih =>
    by_cases e : n = k
    · subst e
      rw [us_yes (by unfold updB; rw [if_pos rfl]), us_no hk, List.length_append, ih, if_neg (Nat.lt_irrefl _), if_pos (Nat.lt_succ_self _)]
      rfl
    · have h2 : updB U k true n = U n := by unfold updB; rw [if_neg e]
      have h3 : (if k < n + 1 then 1 else 0) = (if k < n then 1 else 0) := by
        by_cases e2 : k < n
        · rw [if_pos e2, if_pos (by omega)]
        · rw [if_neg e2, if_neg (by omega)]
      rw [h3]
      cases e2 : U n with
      | true => rw [us_yes (by rw [h2, e2]), us_yes e2, List.length_append, List.length_append, ih]; omega
      | false => rw [us_no (by rw [h2, e2]), us_no e2, ih]
/-- The slot that a Take of a disk with room tells. -/
theorem slo_free {m : Nat} {s : DS} (h : 0 < fre m s) : slo m s < m ∧ s.U (slo m s) = false := by
  unfold slo
  cases e : fst0 s.U m 0 with
  | none =>
    have := us_full m fun t ht => fst0_full s.U m 0 e t (Nat.zero_le _) (by omega)
    unfold fre at h
    omega
  | some i =>
    have := fst0_some s.U m 0 i e
    exact ⟨by show i < m; omega, this.2.2⟩
theorem fre_tk {m : Nat} {s : DS} (h : 0 < fre m s) : fre m (tkD m s) = fre m s - 1 := by
  obtain ⟨h1, h2⟩ := slo_free h
  have := us_one h2 m
  rw [if_pos h1] at this
  show m - (us (updB s.U (slo m s) true) m).length = _
  rw [this]
  unfold fre
  omega
theorem fre_le (m : Nat) (s : DS) : fre m s ≤ m := Nat.sub_le _ _
/-- Filled alike. -/
def Bal (n m : Nat) (D : Nat → DS) : Prop := ∀ a b, a < n → b < n → fre m (D a) ≤ fre m (D b) + 1
theorem Bal.new {n m : Nat} {D : Nat → DS} (h : NewD n D) : Bal n m D := fun a b ha hb => by rw [h.fre ha, h.fre hb]; omega
theorem Bal.take {n m k : Nat} {D D' : Nat → DS} {av : Int → Prop} {p : List Nat} (h : Bal n m D) (hl : ∀ d, d < n → (D d).live = true) (hv : ∀ d, ¬ av d) (hp : Plc (Fit n m D (-1) av) (fun d => fre m (D d)) k p) (h1 : ∀ d ∈ p, D' d = tkD m (D d)) (h2 : ∀ d, d ∉ p → D' d = D d) : Bal n m D' := by
  intro a b ha hb
  have hab := h a b ha hb
  by_cases pa : a ∈ p
  · have fa := (hp.all a pa).2.2.1
    rw [h1 a pa, fre_tk fa]
    by_cases pb : b ∈ p
    · have fb := (hp.all b pb).2.2.1
      rw [h1 b pb, fre_tk fb]
      omega
    · rw [h2 b pb]; omega
  · rw [h2 a pa]
    by_cases pb : b ∈ p
    · have fb := (hp.all b pb).2.2.1
      rw [h1 b pb, fre_tk fb]
      by_cases fa : 0 < fre m (D a)
      · have := hp.best a ⟨ha, hl a ha, fa, hv _, .inl (by omega)⟩ pa b pb
        unfold Bef at this
        dsimp only at this
        omega
      · omega
    · rw [h2 b pb]; exact hab
theorem live_take {n m : Nat} {D D' : Nat → DS} {p : List Nat} (hl : ∀ d, d < n → (D d).live = true) (h1 : ∀ d ∈ p, D' d = tkD m (D d)) (h2 : ∀ d, d ∉ p → D' d = D d) : ∀ d, d < n → (D' d).live = true := by
  intro d hd
  by_cases e : d ∈ p
  · rw [h1 d e]; exact hl d hd
  · rw [h2 d e]; exact hl d hd
theorem nod_ne {p : List Nat} (hd : p.Nodup) {i j : Nat} (hj : j < p.length) (hi : i < p.length) (e : ¬ j = i) : ¬ p[j] = p[i] := by
  rcases Nat.lt_or_gt_of_ne e with h | h
  · exact List.pairwise_iff_getElem.1 hd j i hj hi h
  · exact fun k => List.pairwise_iff_getElem.1 hd i j hi hj h k.symm
end Go.Proofs.Ytcejdobmgbielaa
