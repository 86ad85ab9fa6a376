/- What the document's 'Decode' reckons is what the program tells. -/
import Derived.Test.YtkenfabnbmkhbaaGreatDecOff
namespace Go.Proofs.YtkenfabnbmkhbaaGreat
open Go.RowKit
set_option linter.unusedVariables false

theorem rowZ_stack {k r i s : Nat} {X Y : List Nat} (hs : s < k) : rowZ k r X Y i s = (unitZ k ++ coefZ k r X Y).getD (i * k + s) 0 := by
  unfold rowZ
  split
  · next h =>
    rw [stack_low h hs]
    unfold GfM.idm
    by_cases e : s = i
    · rw [if_pos e, if_pos e.symm]
    · rw [if_neg e, if_neg fun h => e h.symm]
  · next h => rw [stack_high (by omega)]
/-- The place of a shard among those that are there. -/
theorem Tl_at {S : Nat → Option (List Nat)} {i : Nat} {z : List Nat} (hz : S i = some z) : ∀ n, i < n → (Tl S n).getD (Tl S i).length 0 = i ∧ (Tl S i).length < (Tl S n).length
  | 0, h => absurd h (Nat.not_lt_zero _)
  | n + 1, h => by
    by_cases e : i = n
    · subst e
      rw [Tl_some hz]
      simp [List.getD_eq_getElem?_getD]
    · obtain ⟨h1, h2⟩ := Tl_at hz n (by omega)
      rcases hn : S n with _ | y
      · rw [Tl_none hn]; exact ⟨h1, h2⟩
      · rw [Tl_some hn]
        refine ⟨Eq.trans ?_ h1, by rw [List.length_append]; omega⟩
        simp only [List.getD_eq_getElem?_getD]
        rw [List.getElem?_append_left h2]
/-- The rows from which is reckoned. -/
def fromZ (S : Nat → Option (List Nat)) (n s : Nat) : List Nat := (S ((Tl S n).getD s 0)).getD []
/-- A data shard is reckoned to what it is, where it is there. -/
theorem recv_there {k r L : Nat} {Z : List Nat} {S : Nat → Option (List Nat)} {M : GfM.Mx} (hs : ∀ x ∈ unitZ k ++ Z, x < 256) (hf : Fine S (k + r) L) (sS : ∀ t z, S t = some z → ∀ u, z.getD u 0 < 256)
    (hM : GfM.run k (GfM.beside k (cz k (pickZ k k (unitZ k ++ Z) fun i => (Tl S (k + r)).getD i 0))) k = some M) {i : Nat} (hi : i < k) {z : List Nat} (hz : S i = some z) :
    acrZ k L (invZ k M) (fromZ S (k + r)) i = z := by
  obtain ⟨h1, h2⟩ := Tl_at hz (k + r) (by omega)
  have hp : (Tl S i).length < k := by have := Tl_len S i; omega
  generalize (Tl S i).length = p at *
  obtain ⟨hh, hAI, _⟩ := GfM.run_inverse (pick_small (f := fun i => (Tl S (k + r)).getD i 0) hs) hM
  have hrow : ∀ s, s < k → GfM.half k M i s = GfM.idm p s := fun s hsk => by
    have h := hAI p s hp hsk
    rw [GfM.mm_congr (A' := fun _ j => GfM.idm i j) (B' := GfM.half k M) (fun t ht => by rw [cz_pick hp ht, h1, stack_low hi ht]) fun _ _ => rfl] at h
    have e : GfM.mm k (fun _ j => GfM.idm i j) (GfM.half k M) p s = GfM.mm k GfM.idm (GfM.half k M) i s := rfl
    rw [e, GfM.id_mm hh hi] at h
    exact h
  have hfr : fromZ S (k + r) p = z := by unfold fromZ; rw [h1, hz]; rfl
  have hlz : z.length = L := hf i (by omega) z hz
  refine (eq_tab hlz fun u hu => ?_).symm
  let B : GfM.Mx := fun s u => (fromZ S (k + r) s).getD u 0
  have hB : GfM.Small B := fun s u => by
    show ((S ((Tl S (k + r)).getD s 0)).getD []).getD u 0 < 256
    rcases e : S ((Tl S (k + r)).getD s 0) with _ | y
    · simp
    · exact sS _ y e u
  have e := GfM.id_mm (n := k) hB (i := p) (j := u) hp
  have e2 : B p u = z.getD u 0 := by show (fromZ S (k + r) p).getD u 0 = _; rw [hfr]
  rw [e2] at e
  rw [← e]
  show GfM.xs k (fun s => GfM.mul (GfM.idm p s) (B s u)) = GfM.xs k fun s => GfM.mul ((invZ k M).getD (i * k + s) 0) ((fromZ S (k + r) s).getD u 0)
  refine GfM.xs_congr fun s hsk => ?_
  have e1 : (invZ k M).getD (i * k + s) 0 = GfM.half k M i s := cz_tab (f := fun i j => GfM.half k M i j) hi hsk
  rw [e1, hrow s hsk]
/-- A data shard of the document's. -/
def datR (k r L : Nat) (S : Nat → Option (List Nat)) (M : GfM.Mx) (i : Nat) : List Nat := match S i with
  | some z => z
  | none => acrZ k L (invZ k M) (fromZ S (k + r)) i
theorem datR_recv {k r L : Nat} {Z : List Nat} {S : Nat → Option (List Nat)} {M : GfM.Mx} (hs : ∀ x ∈ unitZ k ++ Z, x < 256) (hf : Fine S (k + r) L) (sS : ∀ t z, S t = some z → ∀ u, z.getD u 0 < 256)
    (hM : GfM.run k (GfM.beside k (cz k (pickZ k k (unitZ k ++ Z) fun i => (Tl S (k + r)).getD i 0))) k = some M) {i : Nat} (hi : i < k) : datR k r L S M i = acrZ k L (invZ k M) (fromZ S (k + r)) i := by
  unfold datR
  split
  · next z hz => exact (recv_there hs hf sS hM hi hz).symm
  · rfl
theorem datR_len {k r L : Nat} {S : Nat → Option (List Nat)} {M : GfM.Mx} (hf : Fine S (k + r) L) {i : Nat} (hi : i < k) : (datR k r L S M i).length = L := by
  unfold datR
  split
  · next z hz => exact hf i (by omega) z hz
  · exact acrZ_length _ _ _ _ _
theorem datR_small {k r L : Nat} {S : Nat → Option (List Nat)} {M : GfM.Mx} (sS : ∀ t z, S t = some z → ∀ u, z.getD u 0 < 256) (i u : Nat) : (datR k r L S M i).getD u 0 < 256 := by
  unfold datR
  split
  · next z hz => exact sS i z hz u
  · exact acrZ_small _ _ _ _ _ u
/-- A parity of the document's. -/
def parR (k r L : Nat) (Z : List Nat) (S : Nat → Option (List Nat)) (M : GfM.Mx) (j : Nat) : List Nat := match S (k + j) with
  | some z => z
  | none => acrZ k L Z (datR k r L S M) j
/-- All of them are what the program tells. -/
theorem dec_ref {k r L : Nat} {Z : List Nat} {S : Nat → Option (List Nat)} {M : GfM.Mx} (hs : ∀ x ∈ unitZ k ++ Z, x < 256) (hf : Fine S (k + r) L) (sS : ∀ t z, S t = some z → ∀ u, z.getD u 0 < 256)
    (hM : GfM.run k (GfM.beside k (cz k (pickZ k k (unitZ k ++ Z) fun i => (Tl S (k + r)).getD i 0))) k = some M) {t : Nat} (ht : t < k + r) :
    decZ k r L Z S M t = two k (datR k r L S M) (parR k r L Z S M) t := by
  rcases hz : S t with _ | z
  · unfold decZ cpy
    rw [List.take_of_length_le (Nat.le_refl _), if_neg (fun h => by have := (Tl_iff.1 h).2; rw [hz] at this; cases this)]
    unfold two
    split
    · next h =>
      unfold datR
      rw [hz]
      rfl
    · next h =>
      unfold parR
      rw [show k + (t - k) = t by omega, hz]
      exact acrZ_congr fun s hsk => (datR_recv hs hf sS hM hsk).symm
  · rw [dec_there ht hz]
    unfold two
    split
    · unfold datR; rw [hz]
    · unfold parR
      rw [show k + (t - k) = t by omega, hz]
end Go.Proofs.YtkenfabnbmkhbaaGreat
