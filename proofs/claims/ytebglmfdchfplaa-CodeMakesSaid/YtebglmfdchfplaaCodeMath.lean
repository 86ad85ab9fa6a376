/- Any k rows of the unit's and of a Cauchy matrix have an inverse. -/
import Derived.Test.YtebglmfdchfplaaMatCauchy
namespace Go.Proofs.Ytebglmfdchfplaa.GfM
set_option linter.unusedVariables false

theorem nodup_le : ∀ (l l' : List Nat), l.Nodup → (∀ a ∈ l, a ∈ l') → l.length ≤ l'.length
  | [], _, _, _ => Nat.zero_le _
  | a :: l, l', nd, h => by
    have ha := h a (List.mem_cons_self ..)
    have h1 : ∀ b ∈ l, b ∈ l'.erase a := fun b hb => (List.mem_erase_of_ne (by rintro rfl; exact (List.nodup_cons.1 nd).1 hb)).2 (h b (List.mem_cons_of_mem _ hb))
    have h2 := nodup_le l (l'.erase a) (List.nodup_cons.1 nd).2 h1
    have e := List.length_erase_of_mem ha
    have h3 : 0 < l'.length := List.length_pos_of_mem ha
    simp only [List.length_cons]
    omega
/-- The sum over some places. -/
def xl (l : List Nat) (f : Nat → Nat) : Nat := l.foldr (fun s a => f s ^^^ a) 0
theorem xl_cons (s : Nat) (l : List Nat) (f : Nat → Nat) : xl (s :: l) f = f s ^^^ xl l f := rfl
theorem xl_append (l m : List Nat) (f : Nat → Nat) : xl (l ++ m) f = xl l f ^^^ xl m f := by
  induction l with
  | nil => simp [xl]
  | cons s l ih => rw [List.cons_append, xl_cons, xl_cons, ih, Nat.xor_assoc]
theorem xs_filter (k : Nat) (p : Nat → Bool) (f : Nat → Nat) (h : ∀ s, s < k → p s = false → f s = 0) : xs k f = xl ((List.range k).filter p) f := by
  induction k with
  | zero => rfl
  | succ k ih =>
    rw [xs, ih fun s hs => h s (by omega), List.range_succ, List.filter_append, xl_append]
    congr 1
    by_cases hp : p k = true
    · simp [hp, xl]
    · have hp' : p k = false := by simpa using hp
      simp [hp', xl, h k (by omega) hp']
theorem xl_xs (l : List Nat) (f : Nat → Nat) : xl l f = xs l.length fun i => f (l.getD i 0) := by
  induction l with
  | nil => rfl
  | cons s l ih =>
    rw [xl_cons, ih, List.length_cons, Nat.add_comm, xs_add 1]
    congr 1
    · simp [xs]
    · exact xs_congr fun i _ => by rw [Nat.add_comm 1 i]; rfl
theorem filter_len (l : List Nat) (p : Nat → Bool) : (l.filter p).length + (l.filter fun x => !p x).length = l.length := by
  induction l with
  | nil => rfl
  | cons s l ih =>
    by_cases h : p s = true
    · simp [h]; omega
    · have h' : p s = false := by simpa using h
      simp [h']; omega
theorem nodup_at {l : List Nat} (nd : l.Nodup) {i j : Nat} (hi : i < l.length) (hj : j < l.length) (e : l.getD i 0 = l.getD j 0) : i = j := by
  refine (List.getElem?_inj hi nd).1 ?_
  simp only [List.getD_eq_getElem?_getD, List.getElem?_eq_getElem hi, List.getElem?_eq_getElem hj, Option.getD_some] at e ⊢
  rw [e]
theorem getD_mem {l : List Nat} {i : Nat} (hi : i < l.length) : l.getD i 0 ∈ l := by
  simp only [List.getD_eq_getElem?_getD, List.getElem?_eq_getElem hi, Option.getD_some]
  exact List.getElem_mem hi

/-- Rows of the unit's and of a Cauchy matrix: they make nought of nought alone. -/
theorem mixed_ker (k : Nat) (π a b x : Nat → Nat) (ha : ∀ t, a t < 256) (hb : ∀ i, b i < 256) (hx : ∀ i, x i < 256)
    (iπ : ∀ i j, i < k → j < k → π i = π j → i = j) (ia : ∀ i j, i < k → j < k → k ≤ π i → k ≤ π j → a (π i) = a (π j) → i = j)
    (ib : ∀ i j, i < k → j < k → b i = b j → i = j) (hab : ∀ i j, i < k → k ≤ π i → j < k → a (π i) ≠ b j)
    (h1 : ∀ i, i < k → π i < k → x (π i) = 0) (h2 : ∀ i, i < k → k ≤ π i → xs k (fun j => mul (inv (a (π i) ^^^ b j)) (x j)) = 0) : ∀ j, j < k → x j = 0 := by
  obtain ⟨Ml, hM⟩ : ∃ l, l = (List.range k).filter fun j => decide (x j ≠ 0) := ⟨_, rfl⟩
  obtain ⟨Pl, hP⟩ : ∃ l, l = (List.range k).filter fun i => decide (k ≤ π i) := ⟨_, rfl⟩
  obtain ⟨Hl, hH⟩ : ∃ l, l = (List.range k).filter fun i => !decide (k ≤ π i) := ⟨_, rfl⟩
  have mM : ∀ j, j ∈ Ml ↔ j < k ∧ x j ≠ 0 := fun j => by rw [hM]; simp
  have mP : ∀ i, i ∈ Pl ↔ i < k ∧ k ≤ π i := fun i => by rw [hP]; simp
  have mH : ∀ i, i ∈ Hl ↔ i < k ∧ π i < k := fun i => by rw [hH]; simp
  have nM : Ml.Nodup := by rw [hM]; exact List.nodup_range.filter _
  have nP : Pl.Nodup := by rw [hP]; exact List.nodup_range.filter _
  have nH : Hl.Nodup := by rw [hH]; exact List.nodup_range.filter _
  have hPH : Pl.length + Hl.length = k := by rw [hP, hH, filter_len]; simp
  have nHm : (Hl.map π).Nodup := by
    unfold List.Nodup
    rw [List.pairwise_map]
    exact nH.imp_of_mem fun {i j} hi hj hne e => hne (iπ i j ((mH i).1 hi).1 ((mH j).1 hj).1 e)
  have hle : Ml.length ≤ Pl.length := by
    have nd : (Ml ++ Hl.map π).Nodup := List.nodup_append.2 ⟨nM, nHm, fun u hu v hv e => by
      obtain ⟨i, hi, rfl⟩ := List.mem_map.1 hv
      have := h1 i ((mH i).1 hi).1 ((mH i).1 hi).2
      exact ((mM u).1 hu).2 (by rw [e]; exact this)⟩
    have hsub := nodup_le (Ml ++ Hl.map π) (List.range k) nd fun u hu => by
      rcases List.mem_append.1 hu with hu | hu
      · exact List.mem_range.2 ((mM u).1 hu).1
      · obtain ⟨i, hi, rfl⟩ := List.mem_map.1 hu
        exact List.mem_range.2 ((mH i).1 hi).2
    simp at hsub
    omega
  have hk := cauchy_ker Ml.length (fun i => a (π (Pl.getD i 0))) (fun j => b (Ml.getD j 0)) (fun j => x (Ml.getD j 0)) (fun _ => ha _) (fun _ => hb _) (fun _ => hx _)
    (fun i j hi hj e => by
      have p1 := (mP _).1 (getD_mem (l := Pl) (i := i) (by omega))
      have p2 := (mP _).1 (getD_mem (l := Pl) (i := j) (by omega))
      exact nodup_at nP (by omega) (by omega) (ia _ _ p1.1 p2.1 p1.2 p2.2 e))
    (fun i j hi hj e => nodup_at nM hi hj (ib _ _ ((mM _).1 (getD_mem hi)).1 ((mM _).1 (getD_mem hj)).1 e))
    (fun i j hi hj => by
      have p1 := (mP _).1 (getD_mem (l := Pl) (i := i) (by omega))
      exact hab _ _ p1.1 p1.2 ((mM _).1 (getD_mem hj)).1)
    (fun i hi => by
      have p1 := (mP _).1 (getD_mem (l := Pl) (i := i) (by omega))
      have h := h2 _ p1.1 p1.2
      rw [xs_filter k (fun j => decide (x j ≠ 0)) _ (fun s _ hs => by
        have : x s = 0 := by simpa using hs
        rw [this, mul_zero]), ← hM, xl_xs] at h
      exact h)
  intro j hj
  refine Classical.byContradiction fun h0 => ?_
  obtain ⟨i, hi, e⟩ := List.mem_iff_getElem.1 ((mM j).2 ⟨hj, h0⟩)
  have h := hk i hi
  simp only [List.getD_eq_getElem?_getD, List.getElem?_eq_getElem hi, Option.getD_some, e] at h
  exact h0 h
/-- So they have an inverse. -/
theorem mixed_run {k : Nat} {π a b : Nat → Nat} {A : Mx} (hA : Small A) (ha : ∀ t, a t < 256) (hb : ∀ i, b i < 256)
    (iπ : ∀ i j, i < k → j < k → π i = π j → i = j) (ia : ∀ i j, i < k → j < k → k ≤ π i → k ≤ π j → a (π i) = a (π j) → i = j)
    (ib : ∀ i j, i < k → j < k → b i = b j → i = j) (hab : ∀ i j, i < k → k ≤ π i → j < k → a (π i) ≠ b j)
    (c1 : ∀ i j, i < k → π i < k → j < k → A i j = idm (π i) j) (c2 : ∀ i j, i < k → k ≤ π i → j < k → A i j = inv (a (π i) ^^^ b j)) : run k (beside k A) k ≠ none := by
  intro h
  obtain ⟨x, hx, ⟨j, hj, h0⟩, hz⟩ := run_singular hA h
  refine h0 (mixed_ker k π a b x ha hb hx iπ ia ib hab (fun i hi hp => ?_) (fun i hi hp => ?_) j hj)
  · have h := hz i hi
    unfold dt at h
    rw [xs_congr fun j hj => by rw [c1 i j hi hp hj], xs_one hp fun s hs hne => by unfold idm; rw [if_neg fun e => hne e.symm, zero_mul]] at h
    unfold idm at h
    rw [if_pos rfl, one_mul (hx _)] at h
    exact h
  · have h := hz i hi
    unfold dt at h
    rw [xs_congr fun j hj => by rw [c2 i j hi hp hj]] at h
    exact h
/-- What is multiplied is told by the inverse. -/
theorem undo {k : Nat} {A M : Mx} (hA : Small A) (h : run k (beside k A) k = some M) {d : Nat → Nat} (hd : ∀ i, d i < 256) {i : Nat} (hi : i < k) :
    xs k (fun s => mul (half k M i s) (xs k fun u => mul (A s u) (d u))) = d i := by
  have e := mm_assoc k k (half k M) A (fun u _ => d u) i 0
  have e1 : mm k (half k M) (mm k A fun u _ => d u) i 0 = xs k fun s => mul (half k M i s) (xs k fun u => mul (A s u) (d u)) := rfl
  rw [← e1, ← e, mm_congr (A' := idm) (B' := fun u _ => d u) (fun s hs => (run_inverse hA h).2.2 i s hi hs) fun _ _ => rfl]
  exact id_mm (A := fun u _ => d u) (fun i _ => hd i) hi
end Go.Proofs.Ytebglmfdchfplaa.GfM
