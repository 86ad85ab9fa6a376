/- A Code's rows have an inverse; what is decoded of right shards is right. -/
import Derived.Test.YtebglmfdchfplaaCodeCheck
import Derived.Test.YtebglmfdchfplaaCodeMake
namespace Go.Proofs.Ytebglmfdchfplaa
open Go.RowKit
set_option linter.unusedVariables false

theorem cz_pick {k : Nat} {z : List Nat} {f : Nat → Nat} {i j : Nat} (hi : i < k) (hj : j < k) : cz k (pickZ k k z f) i j = z.getD (f i * k + j) 0 := by
  unfold cz pickZ
  have hlt : i * k + j < k * k := by
    have := Nat.mul_le_mul_right k (show i + 1 ≤ k from hi)
    rw [Nat.add_mul] at this
    omega
  rw [tab_at _ _ _ hlt, Nat.mul_comm i k, Nat.mul_add_mod, Nat.mod_eq_of_lt hj, Nat.mul_add_div (by omega), Nat.div_eq_of_lt hj, Nat.add_zero]
theorem stack_low {k t j : Nat} {Z : List Nat} (ht : t < k) (hj : j < k) : (unitZ k ++ Z).getD (t * k + j) 0 = GfM.idm t j := by
  have hlt : t * k + j < k * k := by
    have := Nat.mul_le_mul_right k (show t + 1 ≤ k from ht)
    rw [Nat.add_mul] at this
    omega
  have hl : (unitZ k).length = k * k := tab_length _ _
  have e : (unitZ k ++ Z).getD (t * k + j) 0 = (unitZ k).getD (t * k + j) 0 := by
    simp only [List.getD_eq_getElem?_getD, List.getElem?_append_left (show t * k + j < (unitZ k).length by omega)]
  rw [e]
  unfold unitZ
  rw [tab_at _ _ _ hlt, Nat.mul_comm t k, Nat.mul_add_mod, Nat.mod_eq_of_lt hj, Nat.mul_add_div (by omega), Nat.div_eq_of_lt hj, Nat.add_zero]
  rfl
theorem stack_high {k t j : Nat} {Z : List Nat} (ht : k ≤ t) : (unitZ k ++ Z).getD (t * k + j) 0 = Z.getD ((t - k) * k + j) 0 := by
  have hl : (unitZ k).length = k * k := tab_length _ _
  have hge : k * k ≤ t * k := Nat.mul_le_mul_right k ht
  simp only [List.getD_eq_getElem?_getD]
  rw [List.getElem?_append_right (by omega), hl, Nat.sub_mul]
  congr 2
  omega
theorem pick_small {k : Nat} {z : List Nat} {f : Nat → Nat} (h : ∀ x ∈ z, x < 256) : GfM.Small (cz k (pickZ k k z f)) := by
  refine cz_small fun x hx => ?_
  unfold pickZ at hx
  obtain ⟨i, _, rfl⟩ := List.mem_map.1 hx
  exact small_getD h _
theorem stack_small {k r : Nat} {X Y : List Nat} : ∀ x ∈ unitZ k ++ coefZ k r X Y, x < 256 := by
  intro x hx
  rcases List.mem_append.1 hx with hx | hx
  · exact tab_small (fun i => by split <;> omega) x hx
  · exact tab_small (fun i => GfM.inv_lt _) x hx

/-- Any k places of a Code's have an inverse. -/
theorem code_regular {k r n : Nat} {X Y T : List Nat} (lX : X.length = k) (lY : Y.length = r) (hd : Dst (X ++ Y)) (sX : ∀ i, X.getD i 0 < 256) (sY : ∀ i, Y.getD i 0 < 256) (hT : T.Nodup) (hlt : ∀ i, i < T.length → T.getD i 0 < k + r) (hk : k ≤ T.length) :
    ∃ M, GfM.run k (GfM.beside k (cz k (pickZ k k (unitZ k ++ coefZ k r X Y) fun i => T.getD i 0))) k = some M := by
  have hx : ∀ i, i < k → (X ++ Y).getD i 0 = X.getD i 0 := fun i hi => by
    simp only [List.getD_eq_getElem?_getD, List.getElem?_append_left (show i < X.length by omega)]
  have hy : ∀ t, k ≤ t → t < k + r → (X ++ Y).getD t 0 = Y.getD (t - k) 0 := fun t h1 h2 => by
    simp only [List.getD_eq_getElem?_getD]
    rw [List.getElem?_append_right (by omega), lX]
  have hll : (X ++ Y).length = k + r := by rw [List.length_append, lX, lY]
  have h := GfM.mixed_run (k := k) (π := fun i => T.getD i 0) (a := fun t => Y.getD (t - k) 0) (b := fun i => X.getD i 0) (A := cz k (pickZ k k (unitZ k ++ coefZ k r X Y) fun i => T.getD i 0)) (pick_small stack_small) (fun _ => sY _) (fun _ => sX _)
    (fun i j hi hj e => GfM.nodup_at hT (by omega) (by omega) e)
    (fun i j hi hj pi pj e => GfM.nodup_at hT (by omega) (by omega) (hd _ _ (by rw [hll]; exact hlt i (by omega)) (by rw [hll]; exact hlt j (by omega)) (by rw [hy _ pi (hlt i (by omega)), hy _ pj (hlt j (by omega))]; exact e)))
    (fun i j hi hj e => hd i j (by omega) (by omega) (by rw [hx i hi, hx j hj]; exact e))
    (fun i j hi pi hj e => by
      have := hd (T.getD i 0) j (by rw [hll]; exact hlt i (by omega)) (by omega) (by rw [hy _ pi (hlt i (by omega)), hx j hj]; exact e)
      omega)
    (fun i j hi pi hj => by rw [cz_pick hi hj]; exact stack_low pi hj)
    (fun i j hi pi hj => by
      rw [cz_pick hi hj, stack_high pi, coefZ_at (by have := hlt i (by omega); omega) hj])
  cases e : GfM.run k (GfM.beside k (cz k (pickZ k k (unitZ k ++ coefZ k r X Y) fun i => T.getD i 0))) k with
  | none => exact absurd e h
  | some M => exact ⟨M, rfl⟩
theorem Tl_regular {k r : Nat} {X Y : List Nat} (S : Nat → Option (List Nat)) (lX : X.length = k) (lY : Y.length = r) (hd : Dst (X ++ Y)) (sX : ∀ i, X.getD i 0 < 256) (sY : ∀ i, Y.getD i 0 < 256) (hk : k ≤ (Tl S (k + r)).length) :
    ∃ M, GfM.run k (GfM.beside k (cz k (pickZ k k (unitZ k ++ coefZ k r X Y) fun i => (Tl S (k + r)).getD i 0))) k = some M :=
  code_regular (n := k + r) lX lY hd sX sY (Tl_nodup _ _) (fun i hi => (Tl_mem hi).1) hk

theorem acrZ_at {k L j u : Nat} {z : List Nat} {R : Nat → List Nat} (hu : u < L) : (acrZ k L z R j).getD u 0 = GfM.xs k fun s => GfM.mul (z.getD (j * k + s) 0) ((R s).getD u 0) := tab_at _ _ _ hu
theorem acrZ_congr {k L j : Nat} {z : List Nat} {R Q : Nat → List Nat} (h : ∀ s, s < k → R s = Q s) : acrZ k L z R j = acrZ k L z Q j := by
  unfold acrZ
  exact tab_congr fun u hu => GfM.xs_congr fun s hs => by rw [h s hs]
theorem acrZ_small (k L : Nat) (z : List Nat) (R : Nat → List Nat) (j : Nat) : ∀ i, (acrZ k L z R j).getD i 0 < 256 := small_getD (tab_small fun _ => GfM.xs_lt fun _ _ => GfM.mul_lt _ _)
/-- All shards, of the data. -/
def full (k L : Nat) (Z : List Nat) (D : Nat → List Nat) : Nat → List Nat := two k D (acrZ k L Z D)
theorem full_low {k L t : Nat} {Z : List Nat} {D : Nat → List Nat} (h : t < k) : full k L Z D t = D t := by unfold full two; rw [if_pos h]
theorem full_high {k L t : Nat} {Z : List Nat} {D : Nat → List Nat} (h : k ≤ t) : full k L Z D t = acrZ k L Z D (t - k) := by unfold full two; rw [if_neg (by omega)]
theorem full_len {k L t : Nat} {Z : List Nat} {D : Nat → List Nat} (h : ∀ i, i < k → (D i).length = L) : (full k L Z D t).length = L := by
  rcases Nat.lt_or_ge t k with ht | ht
  · rw [full_low ht]; exact h t ht
  · rw [full_high ht]; exact acrZ_length _ _ _ _ _
/-- A shard's byte, as the sum of the data's. -/
theorem full_at {k L t u : Nat} {Z : List Nat} {D : Nat → List Nat} (hu : u < L) (sD : ∀ i j, (D i).getD j 0 < 256) : (full k L Z D t).getD u 0 = GfM.xs k fun v => GfM.mul ((unitZ k ++ Z).getD (t * k + v) 0) ((D v).getD u 0) := by
  rcases Nat.lt_or_ge t k with ht | ht
  · rw [full_low ht]
    have : (GfM.xs k fun v => GfM.mul ((unitZ k ++ Z).getD (t * k + v) 0) ((D v).getD u 0)) = GfM.xs k fun v => GfM.mul (GfM.idm t v) ((D v).getD u 0) := GfM.xs_congr fun v hv => by rw [stack_low ht hv]
    rw [this, GfM.xs_one ht fun s _ hne => by unfold GfM.idm; rw [if_neg fun e => hne e.symm, GfM.zero_mul]]
    unfold GfM.idm
    rw [if_pos rfl, GfM.one_mul (sD _ _)]
  · rw [full_high ht, acrZ_at hu]
    exact GfM.xs_congr fun v _ => by rw [stack_high ht]

/-- What is decoded of right shards. -/
theorem data_right {k r L : Nat} {Z : List Nat} {S : Nat → Option (List Nat)} {D : Nat → List Nat} {M : GfM.Mx} (hs : ∀ x ∈ unitZ k ++ Z, x < 256) (lD : ∀ i, i < k → (D i).length = L) (sD : ∀ i j, (D i).getD j 0 < 256) (hk : k ≤ (Tl S (k + r)).length)
    (hS : ∀ t, t < k + r → ∀ z, S t = some z → z = full k L Z D t) (hM : GfM.run k (GfM.beside k (cz k (pickZ k k (unitZ k ++ Z) fun i => (Tl S (k + r)).getD i 0))) k = some M) {i : Nat} (hi : i < k) :
    acrZ k L (invZ k M) (fun s => (S ((Tl S (k + r)).getD s 0)).getD []) i = D i := by
  refine (eq_tab (lD i hi) fun u hu => ?_).symm
  have h := GfM.undo (pick_small (f := fun i => (Tl S (k + r)).getD i 0) hs) hM (d := fun v => (D v).getD u 0) (fun v => sD v u) hi
  rw [← h]
  refine GfM.xs_congr fun s hsk => ?_
  obtain ⟨h1, z, h2⟩ := Tl_mem (S := S) (n := k + r) (i := s) (by omega)
  have e1 : (invZ k M).getD (i * k + s) 0 = GfM.half k M i s := cz_tab (f := fun i j => GfM.half k M i j) hi hsk
  rw [e1]
  show _ = GfM.mul _ (((S ((Tl S (k + r)).getD s 0)).getD []).getD u 0)
  rw [h2]
  show _ = GfM.mul _ (z.getD u 0)
  rw [hS _ h1 z h2, full_at hu sD]
  congr 1
  exact GfM.xs_congr fun v hv => by rw [cz_pick hsk hv]
theorem dec_right {k r L : Nat} {Z : List Nat} {S : Nat → Option (List Nat)} {D : Nat → List Nat} {M : GfM.Mx} (hs : ∀ x ∈ unitZ k ++ Z, x < 256) (lD : ∀ i, i < k → (D i).length = L) (sD : ∀ i j, (D i).getD j 0 < 256) (hk : k ≤ (Tl S (k + r)).length)
    (hS : ∀ t, t < k + r → ∀ z, S t = some z → z = full k L Z D t) (hM : GfM.run k (GfM.beside k (cz k (pickZ k k (unitZ k ++ Z) fun i => (Tl S (k + r)).getD i 0))) k = some M) {t : Nat} (ht : t < k + r) :
    decZ k r L Z S M t = full k L Z D t := by
  unfold decZ cpy
  rw [List.take_of_length_le (Nat.le_refl _)]
  split
  · next hm =>
    obtain ⟨_, h⟩ := Tl_iff.1 hm
    obtain ⟨z, hz⟩ := Option.isSome_iff_exists.1 h
    rw [hz]
    exact hS t ht z hz
  · unfold full two
    split
    · next hlt => exact data_right hs lD sD hk hS hM hlt
    · exact acrZ_congr fun s hsk => data_right hs lD sD hk hS hM hsk
/-- What is there is told as it is. -/
theorem dec_there {k r L : Nat} {Z : List Nat} {S : Nat → Option (List Nat)} {M : GfM.Mx} {t : Nat} {z : List Nat} (ht : t < k + r) (hz : S t = some z) : decZ k r L Z S M t = z := by
  unfold decZ cpy
  rw [List.take_of_length_le (Nat.le_refl _), if_pos (Tl_iff.2 ⟨ht, by rw [hz]; rfl⟩), hz]
  rfl
end Go.Proofs.Ytebglmfdchfplaa
