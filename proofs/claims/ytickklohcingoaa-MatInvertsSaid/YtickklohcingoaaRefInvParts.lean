/- The document's own elimination: what its rows hold. -/
import Derived.Test.YtickklohcingoaaMatLaw
namespace Go.Proofs.Ytickklohcingoaa
open Go.RowKit
set_option linter.unusedVariables false

theorem idx_lt {n i j : Nat} (hi : i < n) (hj : j < n) : i * n + j < n * n := by
  have := Nat.mul_le_mul_right n (show i + 1 ≤ n from hi)
  rw [Nat.add_mul] at this
  omega
theorem idx_inj {n i j k l : Nat} (hj : j < n) (hl : l < n) (h : i * n + j = k * n + l) : i = k ∧ j = l := by
  have h1 : (i * n + j) / n = i := by rw [Nat.mul_comm, Nat.mul_add_div (by omega), Nat.div_eq_of_lt hj, Nat.add_zero]
  have h2 : (k * n + l) / n = k := by rw [Nat.mul_comm, Nat.mul_add_div (by omega), Nat.div_eq_of_lt hl, Nat.add_zero]
  have e : i = k := by rw [← h1, ← h2, h]
  subst e
  exact ⟨rfl, by omega⟩
def updM (N : GfM.Mx) (i k v : Nat) : GfM.Mx := fun a b => if a = i ∧ b = k then v else N a b

/-- The two rows of an elimination: N's left half at block ga, its right one at block gb; block P for the answer. -/
structure RI (w : World) (P ga gb n : Nat) (N : GfM.Mx) (wr : World) : Prop where
  ca : ∀ i j, i < n → j < n → wr.cell? ⟨ga, i * n + j, none⟩ = some (.int .u8 (N i j))
  cb : ∀ i j, i < n → j < n → wr.cell? ⟨gb, i * n + j, none⟩ = some (.int .u8 (N i (n + j)))
  fa : ∀ i, wr.frozen? ⟨ga, i, none⟩ = false
  fb : ∀ i, wr.frozen? ⟨gb, i, none⟩ = false
  sm : ∀ i j, N i j < 256
  ne : ga ≠ gb
  up : Up Nul w wr
  oa : w.heap.size ≤ ga
  ob : w.heap.size ≤ gb
  oP : w.heap.size ≤ P
  Pa : P ≠ ga
  Pb : P ≠ gb
  lb : gb < wr.heap.size
  st0 : wr.heap[P]? = some (.cells #[.int .i64 0, .int .i64 0, .slice none 0 0] 35 (0, 0))
theorem RI.drewN {w wr : World} {P ga gb n : Nat} {N : GfM.Mx} (h : RI w P ga gb n N wr) (d : Nat) : RI w P ga gb n N (wr.drewN d) :=
  { h with ca := h.ca, cb := h.cb, fa := h.fa, fb := h.fb, up := h.up.drewN d, lb := h.lb, st0 := h.st0 }
theorem RI.congr {w wr : World} {P ga gb n : Nat} {N M : GfM.Mx} (h : RI w P ga gb n N wr) (hM : GfM.Small M) (e : ∀ i j, i < n → j < n + n → N i j = M i j) : RI w P ga gb n M wr :=
  { h with ca := fun i j hi hj => by rw [← e i j hi (by omega)]; exact h.ca i j hi hj, cb := fun i j hi hj => by rw [← e i (n + j) hi (by omega)]; exact h.cb i j hi hj, sm := hM }
theorem scl_small {c v : Nat} {M : GfM.Mx} (h : GfM.Small M) : GfM.Small (fun i j => if i = c then GfM.mul (M c j) v else M i j) := fun i j => by
  show (if i = c then GfM.mul (M c j) v else M i j) < 256
  split
  · exact GfM.mul_lt _ _
  · exact h i j
theorem RI.setA {w wr : World} {P ga gb n : Nat} {N : GfM.Mx} (h : RI w P ga gb n N wr) {i k v : Nat} (hi : i < n) (hk : k < n) (hv : v < 256) : RI w P ga gb n (updM N i k v) (wr.setCell ⟨ga, i * n + k, none⟩ (.int .u8 v)) :=
  { h with
    ca := fun a b ha hb => by
      unfold updM
      by_cases e : a = i ∧ b = k
      · obtain ⟨e1, e2⟩ := e
        subst e1 e2
        rw [if_pos ⟨rfl, rfl⟩]
        exact World.cell?_setCell_same _ _ _ (h.ca a b ha hb)
      · rw [if_neg e, World.cell?_setCell_other _ _ _ _ (by intro e2; have := congrArg Addr.off e2; simp at this; first | exact e (idx_inj hb hk this) | exact e (idx_inj hb hk this.symm))]
        exact h.ca a b ha hb
    cb := fun a b ha hb => by
      unfold updM
      rw [if_neg (by omega), World.cell?_setCell_other _ _ _ _ (by intro e2; have := congrArg Addr.block e2; simp at this; have := h.ne; omega)]
      exact h.cb a b ha hb
    fa := fun j => by rw [World.frozen?_setCell]; exact h.fa j
    fb := fun j => by rw [World.frozen?_setCell]; exact h.fb j
    sm := fun a b => by
      unfold updM
      split
      · exact hv
      · exact h.sm a b
    up := h.up.setCell (p := ⟨ga, i * n + k, none⟩) (.inl h.oa) _
    lb := by simpa using h.lb
    st0 := (Below.heap_setCell _ _ _ _ h.Pa).trans h.st0 }
theorem RI.setB {w wr : World} {P ga gb n : Nat} {N : GfM.Mx} (h : RI w P ga gb n N wr) {i k v : Nat} (hi : i < n) (hk : k < n) (hv : v < 256) : RI w P ga gb n (updM N i (n + k) v) (wr.setCell ⟨gb, i * n + k, none⟩ (.int .u8 v)) :=
  { h with
    ca := fun a b ha hb => by
      unfold updM
      rw [if_neg (by omega), World.cell?_setCell_other _ _ _ _ (by intro e2; have := congrArg Addr.block e2; simp at this; have := h.ne; omega)]
      exact h.ca a b ha hb
    cb := fun a b ha hb => by
      unfold updM
      by_cases e : a = i ∧ b = k
      · obtain ⟨e1, e2⟩ := e
        subst e1 e2
        rw [if_pos ⟨rfl, rfl⟩]
        exact World.cell?_setCell_same _ _ _ (h.cb a b ha hb)
      · rw [if_neg (by omega), World.cell?_setCell_other _ _ _ _ (by intro e2; have := congrArg Addr.off e2; simp at this; first | exact e (idx_inj hb hk this) | exact e (idx_inj hb hk this.symm))]
        exact h.cb a b ha hb
    fa := fun j => by rw [World.frozen?_setCell]; exact h.fa j
    fb := fun j => by rw [World.frozen?_setCell]; exact h.fb j
    sm := fun a b => by
      unfold updM
      split
      · exact hv
      · exact h.sm a b
    up := h.up.setCell (p := ⟨gb, i * n + k, none⟩) (.inl h.ob) _
    lb := by simpa using h.lb
    st0 := (Below.heap_setCell _ _ _ _ h.Pb).trans h.st0 }

/-- The place of column j within its half. -/
def jj (n j : Nat) : Nat := if j < n then j else j - n
/-- The first k places of each half are F's, the others M's. -/
def Mix (n k : Nat) (F M N : GfM.Mx) : Prop := ∀ i j, i < n → j < n + n → N i j = if jj n j < k then F i j else M i j
theorem Mix.start {n : Nat} {F M N : GfM.Mx} (h : ∀ i j, i < n → j < n + n → N i j = M i j) : Mix n 0 F M N := fun i j hi hj => by rw [if_neg (by omega)]; exact h i j hi hj
theorem Mix.done {n : Nat} {F M N : GfM.Mx} (h : Mix n n F M N) : ∀ i j, i < n → j < n + n → N i j = F i j := fun i j hi hj => by
  rw [h i j hi hj, if_pos]
  unfold jj
  split <;> omega
theorem Mix.at {n k i : Nat} {F M N : GfM.Mx} (h : Mix n k F M N) (hi : i < n) (hk : k < n) : N i k = M i k ∧ N i (n + k) = M i (n + k) := by
  constructor
  · rw [h i k hi (by omega), if_neg]
    unfold jj
    rw [if_pos hk]
    omega
  · rw [h i (n + k) hi (by omega), if_neg]
    unfold jj
    rw [if_neg (by omega)]
    omega
/-- One place more of rows, the cells being told. -/
theorem Mix.next {n k : Nat} {F M N N' : GfM.Mx} (h : Mix n k F M N) (hk : k < n) (hs : ∀ i j, i < n → j < n + n → jj n j ≠ k → N' i j = N i j) (h1 : ∀ i, i < n → N' i k = F i k) (h2 : ∀ i, i < n → N' i (n + k) = F i (n + k)) : Mix n (k + 1) F M N' := fun i j hi hj => by
  by_cases e : jj n j = k
  · rw [if_pos (by omega)]
    unfold jj at e
    split at e
    · subst e; exact h1 i hi
    · have : j = n + k := by omega
      subst this
      exact h2 i hi
  · rw [hs i j hi hj e, h i j hi hj]
    by_cases e2 : jj n j < k
    · rw [if_pos e2, if_pos (by omega)]
    · rw [if_neg e2, if_neg (by omega)]
theorem jj_left {n k : Nat} (h : k < n) : jj n k = k := by unfold jj; rw [if_pos h]
theorem jj_right {n k : Nat} : jj n (n + k) = k := by unfold jj; rw [if_neg (by omega)]; omega

/-- Rows c and p changed for one another, at place k of both halves. -/
theorem swap_mix {n k c p : Nat} {M N : GfM.Mx} (h : Mix n k (GfM.swp c p M) M N) (hk : k < n) (hc : c < n) (hp : p < n) :
    Mix n (k + 1) (GfM.swp c p M) M (updM (updM (updM (updM N p k (N c k)) c k (N p k)) p (n + k) (N c (n + k))) c (n + k) (N p (n + k))) := by
  refine h.next hk (fun i j hi hj e => ?_) (fun i hi => ?_) fun i hi => ?_
  · have e1 : j ≠ k := fun e2 => e (by rw [e2, jj_left hk])
    have e2 : j ≠ n + k := fun e2 => e (by rw [e2, jj_right])
    unfold updM
    rw [if_neg (by omega), if_neg (by omega), if_neg (by omega), if_neg (by omega)]
  · have a1 := (h.at hc hk).1
    have a2 := (h.at hp hk).1
    have a3 := (h.at hi hk).1
    unfold updM GfM.swp
    rw [if_neg (by omega), if_neg (by omega), a1, a2]
    by_cases e1 : i = c
    · rw [if_pos ⟨e1, rfl⟩, if_pos e1]
    · rw [if_neg (by omega), if_neg e1]
      by_cases e2 : i = p
      · rw [if_pos ⟨e2, rfl⟩, if_pos e2]
      · rw [if_neg (by omega), if_neg e2, a3]
  · have a1 := (h.at hc hk).2
    have a2 := (h.at hp hk).2
    have a3 := (h.at hi hk).2
    unfold updM GfM.swp
    rw [a1, a2]
    by_cases e1 : i = c
    · rw [if_pos ⟨e1, rfl⟩, if_pos e1]
    · rw [if_neg (by omega), if_neg e1]
      by_cases e2 : i = p
      · rw [if_pos ⟨e2, rfl⟩, if_pos e2]
      · rw [if_neg (by omega), if_neg (by omega), if_neg (by omega), if_neg e2, a3]
/-- Row c times v. -/
def scl (c v : Nat) (M : GfM.Mx) : GfM.Mx := fun i j => if i = c then GfM.mul (M c j) v else M i j
theorem scale_mix {n k c v : Nat} {M N : GfM.Mx} (h : Mix n k (scl c v M) M N) (hk : k < n) (hc : c < n) :
    Mix n (k + 1) (scl c v M) M (updM (updM N c k (GfM.mul (N c k) v)) c (n + k) (GfM.mul (N c (n + k)) v)) := by
  refine h.next hk (fun i j hi hj e => ?_) (fun i hi => ?_) fun i hi => ?_
  · have e1 : j ≠ k := fun e2 => e (by rw [e2, jj_left hk])
    have e2 : j ≠ n + k := fun e2 => e (by rw [e2, jj_right])
    unfold updM
    rw [if_neg (by omega), if_neg (by omega)]
  · have a1 := (h.at hc hk).1
    have a3 := (h.at hi hk).1
    unfold updM scl
    rw [if_neg (by omega), a1]
    by_cases e1 : i = c
    · rw [if_pos ⟨e1, rfl⟩, if_pos e1]
    · rw [if_neg (by omega), if_neg e1, a3]
  · have a1 := (h.at hc hk).2
    have a3 := (h.at hi hk).2
    unfold updM scl
    rw [a1]
    by_cases e1 : i = c
    · rw [if_pos ⟨e1, rfl⟩, if_pos e1]
    · rw [if_neg (by omega), if_neg (by omega), if_neg e1, a3]
/-- Row r ^= u times row c. -/
def elm (r c u : Nat) (M : GfM.Mx) : GfM.Mx := fun i j => if i = r then M r j ^^^ GfM.mul u (M c j) else M i j
theorem elim_mix {n k r c u : Nat} {M N : GfM.Mx} (h : Mix n k (elm r c u M) M N) (hk : k < n) (hr : r < n) (hc : c < n) (hrc : r ≠ c) :
    Mix n (k + 1) (elm r c u M) M (updM (updM N r k (N r k ^^^ GfM.mul u (N c k))) r (n + k) (N r (n + k) ^^^ GfM.mul u (N c (n + k)))) := by
  refine h.next hk (fun i j hi hj e => ?_) (fun i hi => ?_) fun i hi => ?_
  · have e1 : j ≠ k := fun e2 => e (by rw [e2, jj_left hk])
    have e2 : j ≠ n + k := fun e2 => e (by rw [e2, jj_right])
    unfold updM
    rw [if_neg (by omega), if_neg (by omega)]
  · have a1 := (h.at hc hk).1
    have a2 := (h.at hr hk).1
    have a3 := (h.at hi hk).1
    unfold updM elm
    rw [if_neg (by omega), a1, a2]
    by_cases e1 : i = r
    · rw [if_pos ⟨e1, rfl⟩, if_pos e1]
    · rw [if_neg (by omega), if_neg e1, a3]
  · have a1 := (h.at hc hk).2
    have a2 := (h.at hr hk).2
    have a3 := (h.at hi hk).2
    unfold updM elm
    rw [a1, a2]
    by_cases e1 : i = r
    · rw [if_pos ⟨e1, rfl⟩, if_pos e1]
    · rw [if_neg (by omega), if_neg (by omega), if_neg e1, a3]
/-- The first r rows settled. -/
def Done (n r c p : Nat) (M N : GfM.Mx) : Prop := ∀ i j, i < n → j < n + n → N i j = if i < r then GfM.stl c p M i j else scl c (GfM.inv (M p c)) (GfM.swp c p M) i j
theorem scl_c {c p : Nat} {M : GfM.Mx} (j : Nat) : scl c (GfM.inv (M p c)) (GfM.swp c p M) c j = GfM.stl c p M c j := by
  unfold scl GfM.stl GfM.swp
  rw [if_pos rfl, if_pos rfl, if_pos rfl]
theorem Done.row {n r c p : Nat} {M N : GfM.Mx} (h : Done n r c p M N) (hc : c < n) (j : Nat) (hj : j < n + n) : N c j = GfM.mul (M p j) (GfM.inv (M p c)) := by
  have e : GfM.stl c p M c j = GfM.mul (M p j) (GfM.inv (M p c)) := by unfold GfM.stl; rw [if_pos rfl]
  rw [h c j hc hj, ← e]
  split
  · rfl
  · exact scl_c j
theorem Done.skip_c {n c p : Nat} {M N : GfM.Mx} (h : Done n c c p M N) (hc : c < n) : Done n (c + 1) c p M N := fun i j hi hj => by
  rw [h i j hi hj]
  by_cases e : i < c
  · rw [if_pos e, if_pos (by omega)]
  · rw [if_neg e]
    by_cases e2 : i = c
    · subst e2; rw [if_pos (by omega)]; exact scl_c j
    · rw [if_neg (by omega)]
theorem scl_ne {c p r : Nat} {M : GfM.Mx} (j : Nat) (h : r ≠ c) : scl c (GfM.inv (M p c)) (GfM.swp c p M) r j = GfM.swp c p M r j := by
  unfold scl
  rw [if_neg h]
theorem Done.skip_0 {n r c p : Nat} {M N : GfM.Mx} (h : Done n r c p M N) (hr : r < n) (hc : c < n) (hrc : r ≠ c) (h0 : N r c = 0) : Done n (r + 1) c p M N := fun i j hi hj => by
  rw [h i j hi hj]
  by_cases e : i < r
  · rw [if_pos e, if_pos (by omega)]
  · rw [if_neg e]
    by_cases e2 : i = r
    · subst e2
      rw [if_pos (by omega), scl_ne j hrc]
      have h1 := h i c hi (by omega)
      rw [if_neg (by omega), scl_ne c hrc, h0] at h1
      unfold GfM.stl
      rw [if_neg hrc, ← h1, GfM.mul_zero, Nat.xor_zero]
    · rw [if_neg (by omega)]
theorem Done.next {n r c p u : Nat} {M N N' : GfM.Mx} (h : Done n r c p M N) (hr : r < n) (hc : c < n) (hrc : r ≠ c) (hu : N r c = u) (hN : ∀ i j, i < n → j < n + n → N' i j = elm r c u N i j) : Done n (r + 1) c p M N' := fun i j hi hj => by
  rw [hN i j hi hj]
  unfold elm
  by_cases e2 : i = r
  · subst e2
    have h1 := h i c hi (by omega)
    have h2 := h i j hi hj
    rw [if_neg (by omega), scl_ne c hrc, hu] at h1
    rw [if_neg (by omega), scl_ne j hrc] at h2
    rw [if_pos rfl, if_pos (by omega), h.row hc j hj, h2, h1]
    unfold GfM.stl
    rw [if_neg hrc, GfM.mul_comm]
  · rw [if_neg e2, h i j hi hj]
    by_cases e : i < r
    · rw [if_pos e, if_pos (by omega)]
    · rw [if_neg e, if_neg (by omega)]
end Go.Proofs.Ytickklohcingoaa
