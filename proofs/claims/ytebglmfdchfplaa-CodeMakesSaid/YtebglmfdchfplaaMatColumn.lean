/- 'column', 'Unit' of a Matrix. -/
import Derived.Test.YtebglmfdchfplaaMatRow
namespace Go.Proofs.Ytebglmfdchfplaa
open Go.RowKit
set_option linter.unusedVariables false

theorem ext_getD {y z : List Nat} (hl : y.length = z.length) (h : ∀ i, i < y.length → y.getD i 0 = z.getD i 0) : y = z := by
  apply List.ext_getElem hl
  intro i h1 h2
  have := h i h1
  simpa [List.getD_eq_getElem?_getD, List.getElem?_eq_getElem h1, List.getElem?_eq_getElem h2] using this
theorem getD_set (y : List Nat) (i j v : Nat) (hi : i < y.length) : (y.set i v).getD j 0 = if j = i then v else y.getD j 0 := by
  simp only [List.getD_eq_getElem?_getD, List.getElem?_set]
  by_cases h : i = j
  · subst h; simp [hi]
  · have : ¬ j = i := fun e => h e.symm
    simp [h, this]

/-- A list by its cells. -/
def tab (n : Nat) (f : Nat → Nat) : List Nat := (List.range n).map f
theorem tab_length (n : Nat) (f : Nat → Nat) : (tab n f).length = n := by simp [tab]
theorem tab_at (n : Nat) (f : Nat → Nat) (i : Nat) (h : i < n) : (tab n f).getD i 0 = f i := by
  simp [tab, List.getD_eq_getElem?_getD, h]
theorem eq_tab {y : List Nat} {n : Nat} {f : Nat → Nat} (hl : y.length = n) (h : ∀ i, i < n → y.getD i 0 = f i) : y = tab n f :=
  ext_getD (by rw [hl, tab_length]) fun i hi => by rw [h i (by omega), tab_at n f i (by omega)]

/-- Column j of r rows of c cells. -/
def colOf (r c j : Nat) (z : List Nat) : List Nat := tab r fun i => z.getD (i * c + j) 0

/-- A row of n bytes of the call's own, of which the first k are told. -/
structure Part (w : World) (g n k : Nat) (f : Nat → Nat) (wr : World) (y : List Nat) : Prop where
  blk : Blk wr g y
  len : y.length = n
  told : ∀ i, i < k → y.getD i 0 = f i
  up : Up Nul w wr
theorem Part.next {w wr : World} {g n k x : Nat} {f : Nat → Nat} {y : List Nat} (h : Part w g n k f wr y) (hg : w.heap.size ≤ g) (hk : k < n) (hx : f k = x) (h8 : x < 256) (m : Nat) :
    Part w g n (k + 1) f ((wr.drewN m).setCell ⟨g, k, none⟩ (.int .u8 x)) (y.set k x) :=
  ⟨(h.blk.drewN m).set k x h8, by rw [List.length_set]; exact h.len, fun i hi => by
    rw [getD_set _ _ _ _ (by rw [h.len]; exact hk)]
    split
    · next e => rw [e, hx]
    · exact h.told i (by omega), (h.up.drewN m).setCell (.inl hg) _⟩
theorem Part.done {w wr : World} {g n : Nat} {f : Nat → Nat} {y : List Nat} (h : Part w g n n f wr y) : Blk wr g (tab n f) := by
  rw [← eq_tab h.len h.told]
  exact h.blk
theorem Part.start (w : World) (n : Nat) (f : Nat → Nat) : Part w w.heap.size n 0 f (w.alloc (.cells (bys (zer n)) 5)) (zer n) :=
  ⟨Blk.new w _ (zer_small n), zer_length n, fun _ hi => absurd hi (Nat.not_lt_zero _), (Up.refl Nul w).alloc _⟩

end Go.Proofs.Ytebglmfdchfplaa
