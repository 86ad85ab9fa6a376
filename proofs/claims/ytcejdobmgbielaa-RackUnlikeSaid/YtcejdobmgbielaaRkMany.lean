/- Many disks with one Fuse: what a call of one does to all. -/
import Derived.Test.YtcejdobmgbielaaRkDisk
namespace Go.Proofs.Ytcejdobmgbielaa
open Go.RowKit
set_option linter.unusedVariables false

/-- Many disks, in the blocks T. -/
structure Mn (w : World) (n m : Nat) (fu : Option Nat) (D : Nat → DS) (T : Nat → Prop) : Prop where
  ex : ∃ F : Nat → Nat → Prop, (∀ i, i < n → Dk w m fu (D i) (F i)) ∧ (∀ i j g, i < n → j < n → F i g → F j g → i = j) ∧ ∀ g, T g ↔ ∃ i, i < n ∧ F i g
/-- One disk is another. -/
def updD (D : Nat → DS) (i : Nat) (s : DS) (j : Nat) : DS := if j = i then s else D j
theorem updD_same (D : Nat → DS) (i : Nat) (s : DS) : updD D i s i = s := by unfold updD; rw [if_pos rfl]
theorem updD_other (D : Nat → DS) {i j : Nat} (s : DS) (h : ¬ j = i) : updD D i s j = D j := by unfold updD; rw [if_neg h]
/-- What a call leaves: it turns none but the disks' blocks and the Fuse. -/
structure Md (w w' : World) (n m : Nat) (fu k' : Option Nat) (T : Nat → Prop) (D' : Nat → DS) : Prop where
  ex : ∃ T', Mn w' n m fu D' T' ∧ ∀ g, T' g → T g ∨ w.heap.size ≤ g
  up : Up (fun g => T g ∨ fu = some g) w w'
  fz : FzO w' fu k'
section
variable {w w' : World} {n m : Nat} {fu k : Option Nat} {D : Nat → DS} {T : Nat → Prop}
theorem Mn.none (w : World) (m : Nat) (fu : Option Nat) (D : Nat → DS) : Mn w 0 m fu D Nul :=
  ⟨⟨fun _ _ => False, fun i h => absurd h (Nat.not_lt_zero i), fun i _ _ h => absurd h (Nat.not_lt_zero i), fun g => ⟨fun h => h.elim, fun ⟨i, h, _⟩ => absurd h (Nat.not_lt_zero i)⟩⟩⟩
theorem Mn.lt (h : Mn w n m fu D T) {g : Nat} (hg : T g) : g < w.heap.size := by
  obtain ⟨F, h1, h2, h3⟩ := h.ex
  obtain ⟨i, hi, e⟩ := (h3 g).1 hg
  exact (h1 i hi).lt e
theorem Mn.up {S : Nat → Prop} (h : Mn w n m fu D T) (u : Up S w w') (hs : ∀ g, T g → ¬ S g) : Mn w' n m fu D T := by
  obtain ⟨F, h1, h2, h3⟩ := h.ex
  exact ⟨⟨F, fun i hi => (h1 i hi).up u fun g hg => hs g ((h3 g).2 ⟨i, hi, hg⟩), h2, h3⟩⟩
theorem Mn.congr {D' : Nat → DS} (h : Mn w n m fu D T) (e : ∀ i, i < n → D i = D' i) : Mn w n m fu D' T := by
  obtain ⟨F, h1, h2, h3⟩ := h.ex
  exact ⟨⟨F, fun i hi => e i hi ▸ h1 i hi, h2, h3⟩⟩
theorem Mn.nf (h : Mn w n m fu D T) (hf : FzO w fu k) : ∀ f, fu = some f → ¬ T f := fun f e hT => by
  obtain ⟨F, h1, h2, h3⟩ := h.ex
  obtain ⟨i, hi, x⟩ := (h3 f).1 hT
  exact (h1 i hi).nf hf f e x
theorem Mn.le (h : Mn w n m fu D T) (hn : 0 < n) : m ≤ 64 := by
  obtain ⟨F, h1, h2, h3⟩ := h.ex
  exact (h1 0 hn).le
/-- One of them, and what becomes of all when it changes. -/
theorem Mn.one (h : Mn w n m fu D T) (hf : FzO w fu k) {i : Nat} (hi : i < n) : ∃ F, Dk w m fu (D i) F ∧ (∀ g, F g → T g) ∧ ∀ w' k' s', Dn w w' m fu k' F s' → Md w w' n m fu k' T (updD D i s') := by
  obtain ⟨F, h1, h2, h3⟩ := h.ex
  refine ⟨F i, h1 i hi, fun g hg => (h3 g).2 ⟨i, hi, hg⟩, fun w' k' s' dn => ?_⟩
  obtain ⟨F', g1, g2⟩ := dn.ex
  refine ⟨⟨fun g => ∃ j, j < n ∧ (if j = i then F' g else F j g), ⟨⟨fun j g => if j = i then F' g else F j g, fun j hj => ?_, fun a b g ha hb hA hB => ?_, fun _ => Iff.rfl⟩⟩, fun g hg => ?_⟩, dn.up.mono fun g _ hg => ?_, dn.fz⟩
  · by_cases e : j = i
    · subst e
      simp only [updD_same, if_true]
      exact g1
    · simp only [updD_other D s' e, if_neg e]
      refine (h1 j hj).up dn.up fun g hg hs => ?_
      rcases hs with hs | hs
      · exact e (h2 j i g hj hi hg hs)
      · exact (h1 j hj).nf hf g hs hg
  · have hA : if a = i then F' g else F a g := hA
    have hB : if b = i then F' g else F b g := hB
    by_cases ea : a = i
    · by_cases eb : b = i
      · rw [ea, eb]
      · rw [if_pos ea] at hA
        rw [if_neg eb] at hB
        rcases g2 g hA with e | e
        · rw [ea]; exact h2 i b g hi hb e hB
        · have := (h1 b hb).lt hB; omega
    · by_cases eb : b = i
      · rw [if_neg ea] at hA
        rw [if_pos eb] at hB
        rcases g2 g hB with e | e
        · rw [eb]; exact h2 a i g ha hi hA e
        · have := (h1 a ha).lt hA; omega
      · rw [if_neg ea] at hA
        rw [if_neg eb] at hB
        exact h2 a b g ha hb hA hB
  · obtain ⟨j, hj, e⟩ := hg
    have e : if j = i then F' g else F j g := e
    by_cases ej : j = i
    · rw [if_pos ej] at e
      rcases g2 g e with e | e
      · exact .inl ((h3 g).2 ⟨i, hi, e⟩)
      · exact .inr e
    · rw [if_neg ej] at e
      exact .inl ((h3 g).2 ⟨j, hj, e⟩)
  · rcases hg with e | e
    · exact .inl ((h3 g).2 ⟨i, hi, e⟩)
    · exact .inr e
/-- One more. -/
theorem Mn.more {s : DS} {F : Nat → Prop} (h : Mn w n m fu D T) (hd : Dk w m fu s F) (hx : ∀ g, F g → ¬ T g) : Mn w (n + 1) m fu (updD D n s) (fun g => T g ∨ F g) := by
  obtain ⟨G, h1, h2, h3⟩ := h.ex
  refine ⟨⟨fun j g => if j = n then F g else G j g, fun j hj => ?_, fun a b g ha hb hA hB => ?_, fun g => ⟨fun hg => ?_, fun ⟨j, hj, e⟩ => ?_⟩⟩⟩
  · by_cases e : j = n
    · subst e; simp only [updD_same, if_true]; exact hd
    · simp only [updD_other D s e, if_neg e]; exact h1 j (by omega)
  · have hA : if a = n then F g else G a g := hA
    have hB : if b = n then F g else G b g := hB
    by_cases ea : a = n
    · by_cases eb : b = n
      · rw [ea, eb]
      · rw [if_pos ea] at hA
        rw [if_neg eb] at hB
        exact absurd ((h3 g).2 ⟨b, by omega, hB⟩) (hx g hA)
    · by_cases eb : b = n
      · rw [if_neg ea] at hA
        rw [if_pos eb] at hB
        exact absurd ((h3 g).2 ⟨a, by omega, hA⟩) (hx g hB)
      · rw [if_neg ea] at hA
        rw [if_neg eb] at hB
        exact h2 a b g (by omega) (by omega) hA hB
  · rcases hg with e | e
    · obtain ⟨i, hi, e⟩ := (h3 g).1 e
      exact ⟨i, by omega, by show if i = n then F g else G i g; rw [if_neg (by omega)]; exact e⟩
    · exact ⟨n, by omega, by show if n = n then F g else G n g; rw [if_pos rfl]; exact e⟩
  · have e : if j = n then F g else G j g := e
    by_cases ej : j = n
    · rw [if_pos ej] at e; exact .inr e
    · rw [if_neg ej] at e; exact .inl ((h3 g).2 ⟨j, by omega, e⟩)
theorem Md.nul (h : Mn w n m fu D T) (hf : FzO w fu k) (u : Up Nul w w') : Md w w' n m fu k T D :=
  ⟨⟨T, h.up u fun _ _ h => h, fun g hg => .inl hg⟩, u.mono fun _ _ h => h.elim, hf.up u fun _ _ h => h⟩
end
/-! ### A new disk with its Bay -/
theorem dk_new (m : Nat) (fu : Option Nat) (w : World) (hm : m ≤ 64) :
    Calls Try.prog 28 #[.int .i64 (m : Nat), .pointer (fp fu)] w fun e w1 => ∃ b, e = .returned (.pointer (some ⟨b, 0, none⟩)) ∧ Up Nul w w1 ∧
      Calls Try.prog 27 #[.pointer (some ⟨b, 0, none⟩)] w1 fun e w2 => ∃ q F, e = .returned (.pointer (some ⟨q, 0, none⟩)) ∧ Dk w2 m fu ⟨q, b, fun _ => false, true, fun _ => zer 96, []⟩ F ∧ Up Nul w1 w2 ∧ ∀ g, F g → w.heap.size ≤ g := by
  have hx : cnt (m : Nat) = m := by unfold cnt; omega
  refine (new_any (m : Nat) fu w).mono ?_
  rintro e w1 ⟨b, sq, rfl, h1, u1, hb, hsq⟩
  rw [hx] at h1
  refine ⟨b, rfl, u1, (pnew_of (slots_any _ w1 h1) hm).mono ?_⟩
  rintro e w2 ⟨q, G, rfl, p1, p2, p3⟩
  refine ⟨q, fun g => (DK.new b sq m fu).foot g ∨ G g, rfl, ⟨⟨_, G, h1.nxt p2, p1, rfl, rfl, rfl, rfl, rfl, fun i hi => slot_new _ _ _ _ i hi, fun _ => Iff.rfl⟩, hm⟩, p2, fun g hg => ?_⟩
  rcases hg with (e | e | e) | e
  · rw [e]; exact hb
  · rw [e]; exact hsq
  · cases e
  · exact Nat.le_trans u1.size (p3 g e)
end Go.Proofs.Ytcejdobmgbielaa
