/- Matrices over the field, as functions of row and column: products, elimination, inverses. Plain numbers. -/
import Derived.Test.YtebglmfdchfplaaGfAlg
namespace Go.Proofs.Ytebglmfdchfplaa.GfM
set_option linter.unusedVariables false

/-- The sum of the first k of f. -/
def xs : Nat → (Nat → Nat) → Nat
  | 0, _ => 0
  | k + 1, f => xs k f ^^^ f k

theorem xs_congr {k : Nat} {f g : Nat → Nat} (h : ∀ s, s < k → f s = g s) : xs k f = xs k g := by
  induction k with
  | zero => rfl
  | succ k ih => rw [xs, xs, ih fun s hs => h s (by omega), h k (by omega)]
theorem xs_zero {k : Nat} {f : Nat → Nat} (h : ∀ s, s < k → f s = 0) : xs k f = 0 := by
  induction k with
  | zero => rfl
  | succ k ih => rw [xs, ih fun s hs => h s (by omega), h k (by omega)]; rfl
theorem xs_lt {k : Nat} {f : Nat → Nat} (h : ∀ s, s < k → f s < 256) : xs k f < 256 := by
  induction k with
  | zero => simp [xs]
  | succ k ih => exact xor_lt (ih fun s hs => h s (by omega)) (h k (by omega))
theorem xor_four (a b c d : Nat) : (a ^^^ b) ^^^ (c ^^^ d) = (a ^^^ c) ^^^ (b ^^^ d) := by
  rw [Nat.xor_assoc, ← Nat.xor_assoc b c d, Nat.xor_comm b c, Nat.xor_assoc c b d, ← Nat.xor_assoc]
theorem xs_xor (k : Nat) (f g : Nat → Nat) : xs k (fun s => f s ^^^ g s) = xs k f ^^^ xs k g := by
  induction k with
  | zero => simp [xs]
  | succ k ih => rw [xs, xs, xs, ih, xor_four]
theorem mul_xs (a : Nat) {k : Nat} {f : Nat → Nat} (h : ∀ s, s < k → f s < 256) : mul a (xs k f) = xs k fun s => mul a (f s) := by
  induction k with
  | zero => exact mul_zero a
  | succ k ih => rw [xs, xs, mul_xor a (xs_lt fun s hs => h s (by omega)) (h k (by omega)), ih fun s hs => h s (by omega)]
theorem xs_mul {k : Nat} {f : Nat → Nat} (h : ∀ s, s < k → f s < 256) (a : Nat) : mul (xs k f) a = xs k fun s => mul (f s) a := by
  rw [mul_comm, mul_xs a h]
  exact xs_congr fun s _ => mul_comm _ _
theorem xs_swap (n m : Nat) (f : Nat → Nat → Nat) : xs n (fun i => xs m fun j => f i j) = xs m fun j => xs n fun i => f i j := by
  induction n with
  | zero => exact (xs_zero fun _ _ => rfl).symm
  | succ n ih => simp only [xs]; rw [ih, ← xs_xor]
theorem xs_one {k : Nat} {f : Nat → Nat} {j : Nat} (hj : j < k) (h : ∀ s, s < k → s ≠ j → f s = 0) : xs k f = f j := by
  induction k with
  | zero => omega
  | succ k ih =>
    rw [xs]
    by_cases e : j = k
    · subst e
      rw [xs_zero fun s hs => h s (by omega) (by omega), Nat.zero_xor]
    · rw [ih (by omega) fun s hs hn => h s (by omega) hn, h k (by omega) (Ne.symm e), Nat.xor_zero]
theorem xs_add (a b : Nat) (f : Nat → Nat) : xs (a + b) f = xs a f ^^^ xs b fun s => f (a + s) := by
  induction b with
  | zero => simp [xs]
  | succ b ih => rw [← Nat.add_assoc, xs, ih, xs, Nat.xor_assoc]
theorem xor_eq_zero {a b : Nat} (h : a ^^^ b = 0) : a = b := by
  have : (a ^^^ b) ^^^ b = b := by rw [h, Nat.zero_xor]
  rwa [Nat.xor_assoc, Nat.xor_self, Nat.xor_zero] at this
theorem mul_eq_zero {a b : Nat} (ha : a ≠ 0) (h : mul a b = 0) : b = 0 := by
  rcases Nat.eq_zero_or_pos b with hb | hb
  · exact hb
  · exact absurd h (mul_pos ha (by omega))

/-- A matrix: its cells. -/
abbrev Mx := Nat → Nat → Nat
def Small (A : Mx) : Prop := ∀ i j, A i j < 256
/-- The product, k long. -/
def mm (k : Nat) (A B : Mx) : Mx := fun i j => xs k fun s => mul (A i s) (B s j)
def idm : Mx := fun i j => if i = j then 1 else 0
theorem mm_small (k : Nat) (A B : Mx) : Small (mm k A B) := fun i j => xs_lt fun s _ => mul_lt _ _
theorem idm_small : Small idm := fun i j => by unfold idm; split <;> omega
theorem mm_assoc (k l : Nat) (A B C : Mx) (i j : Nat) : mm l (mm k A B) C i j = mm k A (mm l B C) i j := by
  show xs l (fun t => mul (xs k fun s => mul (A i s) (B s t)) (C t j)) = xs k fun s => mul (A i s) (xs l fun t => mul (B s t) (C t j))
  have e1 : ∀ t, t < l → mul (xs k fun s => mul (A i s) (B s t)) (C t j) = xs k fun s => mul (mul (A i s) (B s t)) (C t j) := fun t _ => xs_mul (fun s _ => mul_lt _ _) _
  have e2 : ∀ s, s < k → mul (A i s) (xs l fun t => mul (B s t) (C t j)) = xs l fun t => mul (A i s) (mul (B s t) (C t j)) := fun s _ => mul_xs _ fun t _ => mul_lt _ _
  rw [xs_congr e1, xs_congr e2, xs_swap]
  exact xs_congr fun s _ => xs_congr fun t _ => mul_assoc _ _ _
theorem mm_congr {k : Nat} {A A' B B' : Mx} {i j : Nat} (ha : ∀ s, s < k → A i s = A' i s) (hb : ∀ s, s < k → B s j = B' s j) : mm k A B i j = mm k A' B' i j :=
  xs_congr fun s hs => by rw [ha s hs, hb s hs]
theorem mm_id {n : Nat} {A : Mx} (hA : Small A) {i j : Nat} (hj : j < n) : mm n A idm i j = A i j := by
  show xs n (fun s => mul (A i s) (idm s j)) = _
  rw [xs_one hj fun s _ hn => by unfold idm; rw [if_neg hn, mul_zero]]
  unfold idm
  rw [if_pos rfl, mul_one (hA i j)]
theorem id_mm {n : Nat} {A : Mx} (hA : Small A) {i j : Nat} (hi : i < n) : mm n idm A i j = A i j := by
  show xs n (fun s => mul (idm i s) (A s j)) = _
  rw [xs_one hi fun s _ hn => by unfold idm; rw [if_neg (Ne.symm hn), zero_mul]]
  unfold idm
  rw [if_pos rfl, one_mul (hA i j)]

/-! ### Elimination -/
/-- The first row from 'at' on that has something in column 'at'. -/
def pivot (n at_ : Nat) (L : Mx) : Option Nat := (List.range n).find? fun i => decide (at_ ≤ i) && decide (L i at_ ≠ 0)
/-- Rows 'at' and p changed for one another. -/
def swp (at_ p : Nat) (L : Mx) : Mx := fun i => if i = at_ then L p else if i = p then L at_ else L i
/-- One column settled. -/
def stl (at_ p : Nat) (L : Mx) : Mx := fun i j =>
  if i = at_ then mul (L p j) (inv (L p at_)) else swp at_ p L i j ^^^ mul (mul (L p j) (inv (L p at_))) (swp at_ p L i at_)
def run (n : Nat) (L : Mx) : Nat → Option Mx
  | 0 => some L
  | k + 1 => (run n L k).bind fun M => (pivot n k M).map fun p => stl k p M

theorem pivot_first {n at_ p : Nat} {L : Mx} (h : pivot n at_ L = some p) : at_ ≤ p ∧ p < n ∧ L p at_ ≠ 0 ∧ ∀ i, at_ ≤ i → i < p → L i at_ = 0 := by
  unfold pivot at h
  rw [List.find?_range_eq_some] at h
  obtain ⟨h1, h2, h3⟩ := h
  simp at h1 h2
  refine ⟨h1.1, h2, h1.2, fun i h4 h5 => ?_⟩
  have := h3 i h5
  simp at this
  omega
theorem pivot_some {n at_ p : Nat} {L : Mx} (h : pivot n at_ L = some p) : at_ ≤ p ∧ p < n ∧ L p at_ ≠ 0 := by
  have := pivot_first h
  exact ⟨this.1, this.2.1, this.2.2.1⟩
theorem pivot_none {n at_ : Nat} {L : Mx} (h : pivot n at_ L = none) (i : Nat) (h1 : at_ ≤ i) (h2 : i < n) : L i at_ = 0 := by
  unfold pivot at h
  rw [List.find?_range_eq_none] at h
  have := h i h2
  simp at this
  omega
theorem pivot_congr {n at_ : Nat} {L M : Mx} (h : ∀ i, i < n → L i at_ = M i at_) : pivot n at_ L = pivot n at_ M := by
  cases e : pivot n at_ M with
  | none =>
    unfold pivot at e ⊢
    rw [List.find?_range_eq_none] at e ⊢
    intro i hi
    rw [h i hi]
    exact e i hi
  | some p =>
    unfold pivot at e ⊢
    rw [List.find?_range_eq_some] at e ⊢
    obtain ⟨e1, e2, e3⟩ := e
    have hp := List.mem_range.1 e2
    refine ⟨by rw [h p hp]; exact e1, e2, fun j hj => ?_⟩
    rw [h j (by omega)]
    exact e3 j hj

theorem swp_small {at_ p : Nat} {L : Mx} (h : Small L) : Small (swp at_ p L) := fun i j => by
  unfold swp
  split
  · exact h _ _
  · split <;> exact h _ _
theorem stl_small {at_ p : Nat} {L : Mx} (h : Small L) : Small (stl at_ p L) := fun i j => by
  unfold stl
  split
  · exact mul_lt _ _
  · exact xor_lt (swp_small h _ _) (mul_lt _ _)

/-- The sum of a row's products with x. -/
def dt (m : Nat) (r x : Nat → Nat) : Nat := xs m fun j => mul (r j) (x j)
theorem dt_lt (m : Nat) (r x : Nat → Nat) : dt m r x < 256 := xs_lt fun _ _ => mul_lt _ _
theorem dt_scale (m : Nat) (r x : Nat → Nat) (v : Nat) : dt m (fun j => mul (r j) v) x = mul v (dt m r x) := by
  unfold dt
  rw [mul_xs v fun _ _ => mul_lt _ _]
  exact xs_congr fun j _ => by
    show mul (mul (r j) v) (x j) = _
    rw [mul_comm (r j) v, mul_assoc]
theorem dt_add (m : Nat) {r u x : Nat → Nat} (hr : ∀ j, r j < 256) (hu : ∀ j, u j < 256) : dt m (fun j => r j ^^^ u j) x = dt m r x ^^^ dt m u x := by
  unfold dt
  rw [← xs_xor]
  exact xs_congr fun j _ => by rw [mul_comm, mul_xor _ (hr j) (hu j), mul_comm (x j) (r j), mul_comm (x j) (u j)]

/-- All rows of L make nought of x. -/
def Ker (n m : Nat) (L : Mx) (x : Nat → Nat) : Prop := ∀ i, i < n → dt m (L i) x = 0

theorem stl_at {at_ p m : Nat} {L : Mx} (x : Nat → Nat) : dt m (stl at_ p L at_) x = mul (inv (L p at_)) (dt m (L p) x) := by
  rw [← dt_scale]
  exact xs_congr fun j _ => by unfold stl; rw [if_pos rfl]
theorem stl_else {at_ p m i : Nat} {L : Mx} (hs : Small L) (x : Nat → Nat) (hi : i ≠ at_) :
    dt m (stl at_ p L i) x = dt m (swp at_ p L i) x ^^^ mul (swp at_ p L i at_) (mul (inv (L p at_)) (dt m (L p) x)) := by
  rw [← dt_scale, ← dt_scale, ← dt_add m (swp_small hs i) fun _ => mul_lt _ _]
  exact xs_congr fun j _ => by unfold stl; rw [if_neg hi]

theorem ker_stl {n m at_ p : Nat} {L : Mx} (hs : Small L) (ha : at_ < n) (hp : p < n) (h0 : L p at_ ≠ 0) (x : Nat → Nat) : Ker n m (stl at_ p L) x ↔ Ker n m L x := by
  constructor
  · intro h
    have e0 : dt m (L p) x = 0 := mul_eq_zero (inv_pos h0) (by rw [← stl_at]; exact h at_ ha)
    have es : ∀ i, i < n → i ≠ at_ → dt m (swp at_ p L i) x = 0 := fun i hi hn => by
      have := h i hi
      rw [stl_else hs x hn, e0, mul_zero, mul_zero, Nat.xor_zero] at this
      exact this
    intro i hi
    by_cases e1 : i = p
    · rw [e1]; exact e0
    by_cases e2 : i = at_
    · subst e2
      have := es p hp fun e => e1 e.symm
      unfold swp at this
      rw [if_neg fun e => e1 e.symm, if_pos rfl] at this
      exact this
    · have := es i hi e2
      unfold swp at this
      rw [if_neg e2, if_neg e1] at this
      exact this
  · intro h i hi
    by_cases e : i = at_
    · subst e
      rw [stl_at, h p hp, mul_zero]
    · rw [stl_else hs x e, h p hp, mul_zero, mul_zero, Nat.xor_zero]
      unfold swp
      rw [if_neg e]
      split
      · exact h _ ha
      · exact h _ hi

/-- The first k columns are those of the unit. -/
def Settled (n k : Nat) (L : Mx) : Prop := ∀ i j, i < n → j < k → L i j = idm i j
theorem settled_stl {n at_ p : Nat} {L : Mx} (hs : Small L) (h : Settled n at_ L) (ha : at_ < n) (hap : at_ ≤ p) (hp : p < n) (h0 : L p at_ ≠ 0) : Settled n (at_ + 1) (stl at_ p L) := by
  intro i j hi hj
  by_cases ej : j = at_
  · subst ej
    by_cases ei : i = j
    · subst ei
      unfold stl idm
      rw [if_pos rfl, if_pos rfl, mul_inv h0 (hs _ _)]
    · unfold stl idm
      rw [if_neg ei, if_neg ei, mul_inv h0 (hs _ _), one_mul (swp_small hs _ _), Nat.xor_self]
  · have hj' : j < at_ := by omega
    have ep : L p j = 0 := by rw [h p j hp hj']; unfold idm; rw [if_neg (by omega)]
    have ea : L at_ j = 0 := by rw [h at_ j ha hj']; unfold idm; rw [if_neg (by omega)]
    by_cases ei : i = at_
    · unfold stl idm
      rw [if_pos ei, ep, zero_mul, if_neg (by omega)]
    · unfold stl
      rw [if_neg ei, ep, zero_mul, zero_mul, Nat.xor_zero]
      unfold swp
      rw [if_neg ei]
      split
      · next e => rw [ea]; unfold idm; rw [if_neg (by omega)]
      · exact h i j hi hj'

theorem run_some {n k m : Nat} {L M : Mx} (hs : Small L) (hk : k ≤ n) (h : run n L k = some M) : Small M ∧ Settled n k M ∧ ∀ x, Ker n m M x ↔ Ker n m L x := by
  induction k generalizing M with
  | zero =>
    cases h
    exact ⟨hs, fun _ _ _ hj => absurd hj (Nat.not_lt_zero _), fun _ => Iff.rfl⟩
  | succ k ih =>
    unfold run at h
    rw [Option.bind_eq_some_iff] at h
    obtain ⟨M', h1, h2⟩ := h
    rw [Option.map_eq_some_iff] at h2
    obtain ⟨p, h2, rfl⟩ := h2
    obtain ⟨a1, a2, a3⟩ := ih (by omega) h1
    obtain ⟨b1, b2, b3⟩ := pivot_some h2
    exact ⟨stl_small a1, settled_stl a1 a2 (by omega) b1 b2 b3, fun x => (ker_stl a1 (by omega) b2 b3 x).trans (a3 x)⟩
theorem run_none {n k : Nat} {L : Mx} (h : run n L k = none) : ∃ j M, j < k ∧ run n L j = some M ∧ pivot n j M = none := by
  induction k with
  | zero => cases h
  | succ k ih =>
    cases e : run n L k with
    | none =>
      obtain ⟨j, M, h1, h2⟩ := ih e
      exact ⟨j, M, by omega, h2⟩
    | some M =>
      refine ⟨k, M, by omega, e, ?_⟩
      unfold run at h
      rw [e] at h
      simpa using h

/-- A matrix beside the unit. -/
def beside (n : Nat) (A : Mx) : Mx := fun i j => if j < n then A i j else if j = n + i then 1 else 0
theorem beside_small {n : Nat} {A : Mx} (hA : Small A) : Small (beside n A) := fun i j => by
  unfold beside
  split
  · exact hA _ _
  · split <;> omega
def cat (n : Nat) (x y : Nat → Nat) : Nat → Nat := fun j => if j < n then x j else y (j - n)
theorem dt_cat (n : Nat) (r x y : Nat → Nat) : dt (n + n) r (cat n x y) = dt n r x ^^^ dt n (fun j => r (n + j)) y := by
  unfold dt
  rw [xs_add]
  congr 1
  · exact xs_congr fun s hs => by unfold cat; rw [if_pos hs]
  · exact xs_congr fun s hs => by unfold cat; rw [if_neg (by omega), show n + s - n = s by omega]
theorem dt_beside {n : Nat} {A : Mx} {x y : Nat → Nat} (hy : ∀ j, y j < 256) {i : Nat} (hi : i < n) : dt (n + n) (beside n A i) (cat n x y) = dt n (A i) x ^^^ y i := by
  rw [dt_cat]
  congr 1
  · exact xs_congr fun s hs => by unfold beside; rw [if_pos hs]
  · show xs n (fun j => mul (beside n A i (n + j)) (y j)) = _
    rw [xs_one hi fun s hs hn => by unfold beside; rw [if_neg (by omega), if_neg (by omega), zero_mul]]
    unfold beside
    rw [if_neg (by omega), if_pos rfl, one_mul (hy i)]
theorem dt_settled {n i : Nat} {M : Mx} (h : Settled n n M) {x y : Nat → Nat} (hx : ∀ j, x j < 256) (hi : i < n) : dt (n + n) (M i) (cat n x y) = x i ^^^ dt n (fun j => M i (n + j)) y := by
  rw [dt_cat]
  congr 1
  show xs n (fun j => mul (M i j) (x j)) = _
  rw [xs_one hi fun s hs hn => by rw [h i s hi hs]; unfold idm; rw [if_neg (Ne.symm hn), zero_mul]]
  rw [h i i hi hi]
  unfold idm
  rw [if_pos rfl, one_mul (hx i)]

/-- The right half. -/
def half (n : Nat) (M : Mx) : Mx := fun i j => M i (n + j)
theorem solves {n : Nat} {A M : Mx} (hA : Small A) (h : run n (beside n A) n = some M) {x y : Nat → Nat} (hx : ∀ j, x j < 256) (hy : ∀ j, y j < 256) :
    (∀ i, i < n → dt n (A i) x = y i) ↔ ∀ i, i < n → x i = dt n (half n M i) y := by
  obtain ⟨h1, h2, h3⟩ := run_some (m := n + n) (beside_small hA) (Nat.le_refl n) h
  have h3 := h3 (cat n x y)
  constructor
  · intro hs i hi
    have := h3.2 (fun i hi => by rw [dt_beside hy hi, hs i hi, Nat.xor_self]) i hi
    rw [dt_settled h2 hx hi] at this
    exact xor_eq_zero this
  · intro hs i hi
    have := h3.1 (fun i hi => by rw [dt_settled h2 hx hi]; conv => lhs; lhs; rw [hs i hi]
                                 exact Nat.xor_self _) i hi
    rw [dt_beside hy hi] at this
    exact xor_eq_zero this

/-- What elimination makes is the inverse, from both sides. -/
theorem run_inverse {n : Nat} {A M : Mx} (hA : Small A) (h : run n (beside n A) n = some M) :
    Small (half n M) ∧ (∀ i j, i < n → j < n → mm n A (half n M) i j = idm i j) ∧ ∀ i j, i < n → j < n → mm n (half n M) A i j = idm i j := by
  obtain ⟨h1, h2, h3⟩ := run_some (m := n + n) (beside_small hA) (Nat.le_refl n) h
  have hh : Small (half n M) := fun i j => h1 _ _
  refine ⟨hh, fun i j hi hj => ?_, fun i j hi hj => ?_⟩
  · have := (solves hA h (x := fun s => half n M s j) (y := fun s => idm s j) (fun s => hh _ _) (fun s => idm_small _ _)).2 (fun i hi => (mm_id hh hj).symm) i hi
    exact this
  · have := (solves hA h (x := fun s => idm s j) (y := fun s => A s j) (fun s => idm_small _ _) (fun s => hA _ _)).1 (fun i hi => mm_id hA hj) i hi
    exact this.symm
/-- Where there is no pivot something but nought is made nought. -/
theorem run_singular {n : Nat} {A : Mx} (hA : Small A) (h : run n (beside n A) n = none) :
    ∃ x : Nat → Nat, (∀ j, x j < 256) ∧ (∃ j, j < n ∧ x j ≠ 0) ∧ ∀ i, i < n → dt n (A i) x = 0 := by
  obtain ⟨k, M, hk, h1, h2⟩ := run_none h
  obtain ⟨a1, a2, a3⟩ := run_some (m := n + n) (beside_small hA) (by omega) h1
  have hx : ∀ j, (fun j => if j = k then 1 else if j < k then M j k else 0) j < 256 := fun j => by
    show (if j = k then 1 else if j < k then M j k else 0) < 256
    split
    · omega
    · split
      · exact a1 _ _
      · omega
  refine ⟨fun j => if j = k then 1 else if j < k then M j k else 0, hx, ⟨k, hk, by simp⟩, ?_⟩
  have hker : Ker n (n + n) M (cat n (fun j => if j = k then 1 else if j < k then M j k else 0) fun _ => 0) := by
    intro i hi
    rw [dt_cat]
    have e0 : dt n (fun j => M i (n + j)) (fun _ => 0) = 0 := xs_zero fun s _ => mul_zero _
    rw [e0, Nat.xor_zero]
    have e1 : ∀ j, j < n → mul (M i j) ((fun j => if j = k then 1 else if j < k then M j k else 0) j) = (if j = k then M i k else 0) ^^^ (if j = i then (if i < k then M i k else 0) else 0) := by
      intro j hj
      show mul (M i j) (if j = k then 1 else if j < k then M j k else 0) = _
      by_cases ejk : j = k
      · subst ejk
        rw [if_pos rfl, if_pos rfl, mul_one (a1 _ _)]
        by_cases eji : j = i
        · subst eji; rw [if_pos rfl, if_neg (by omega), Nat.xor_zero]
        · rw [if_neg eji, Nat.xor_zero]
      · rw [if_neg ejk, if_neg ejk, Nat.zero_xor]
        by_cases hjk : j < k
        · rw [if_pos hjk, a2 i j hi hjk]
          unfold idm
          by_cases eij : i = j
          · subst eij; rw [if_pos rfl, if_pos rfl, if_pos hjk, one_mul (a1 _ _)]
          · rw [if_neg eij, if_neg fun e => eij e.symm, zero_mul]
        · rw [if_neg hjk, mul_zero]
          split
          · next e => subst e; rw [if_neg hjk]
          · rfl
    show xs n _ = 0
    rw [xs_congr e1, xs_xor, xs_one hk fun s _ hn => by rw [if_neg hn], xs_one hi fun s _ hn => by rw [if_neg hn], if_pos rfl, if_pos rfl]
    by_cases hik : i < k
    · rw [if_pos hik, Nat.xor_self]
    · rw [if_neg hik, pivot_none h2 i (by omega) hi]; rfl
  intro i hi
  have := (a3 _).1 hker i hi
  rw [dt_beside (fun _ => by omega) hi, Nat.xor_zero] at this
  exact this

/-- A matrix that has an inverse makes nought of nought alone. -/
theorem run_ne_none {n : Nat} {A B : Mx} (hA : Small A) (hB : ∀ i j, i < n → j < n → mm n B A i j = idm i j) : run n (beside n A) n ≠ none := by
  intro h
  obtain ⟨x, hx, ⟨j, hj, hj0⟩, hz⟩ := run_singular hA h
  apply hj0
  have e : mm n (mm n B A) (fun s _ => x s) j 0 = mm n B (mm n A fun s _ => x s) j 0 := mm_assoc n n B A _ j 0
  have e1 : mm n (mm n B A) (fun s _ => x s) j 0 = mm n idm (fun s _ => x s) j 0 := mm_congr (fun s hs => hB j s hj hs) fun _ _ => rfl
  have e2 : mm n B (mm n A fun s _ => x s) j 0 = 0 := xs_zero fun s hs => by
    rw [show mm n A (fun s _ => x s) s 0 = 0 from hz s hs, mul_zero]
  rw [e1, e2, id_mm (fun s _ => hx s) hj] at e
  exact e
/-- Two inverses are one. -/
theorem inverse_one {n : Nat} {A B C : Mx} (hB : Small B) (hC : Small C) (hBA : ∀ i j, i < n → j < n → mm n B A i j = idm i j) (hAC : ∀ i j, i < n → j < n → mm n A C i j = idm i j) {i j : Nat} (hi : i < n) (hj : j < n) : B i j = C i j := by
  have e : mm n (mm n B A) C i j = mm n B (mm n A C) i j := mm_assoc n n B A C i j
  rw [mm_congr (A' := idm) (B' := C) (fun s hs => hBA i s hi hs) fun _ _ => rfl, id_mm hC hi] at e
  rw [mm_congr (A := B) (A' := B) (B' := idm) (fun _ _ => rfl) fun s hs => hAC s j hs hj, mm_id hB hj] at e
  exact e.symm
end Go.Proofs.Ytebglmfdchfplaa.GfM
