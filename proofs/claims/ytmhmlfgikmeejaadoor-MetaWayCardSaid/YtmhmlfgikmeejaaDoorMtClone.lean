/- slices.Clone of Locs. -/
import Derived.Test.YtmhmlfgikmeejaaDoorMtNew
namespace Go.Proofs.YtmhmlfgikmeejaaDoor
open Go.RowKit Go.Maps
set_option linter.unusedVariables false

section
variable {base : Nat} {w w' : World} {v : Value} {ls xs : List Lo}
theorem loV_app (ls xs : List Lo) : loV (ls ++ xs) = loV ls ++ loV xs := by simp [loV]
theorem rowL_cells {g o : Nat} (hc : ∀ i l, xs[i]? = some l → ∀ j v, l.cells[j]? = some v → w.cell? ⟨g, o + i * 3 + j, none⟩ = some v) : ∀ j u, (loV xs)[j]? = some u → w.cell? ((⟨g, o, none⟩ : Addr).add j) = some u := by
  intro j u hj
  have hl : j < (loV xs).length := by
    rcases Nat.lt_or_ge j (loV xs).length with h | h
    · exact h
    · rw [List.getElem?_eq_none h] at hj; cases hj
  rw [loV_length] at hl
  have hi : j / 3 < xs.length := by omega
  have e := loV_at xs (j / 3) (j % 3) (by omega) xs[j / 3] (List.getElem?_eq_getElem hi)
  rw [show j / 3 * 3 + j % 3 = j by omega, hj] at e
  have := hc (j / 3) _ (List.getElem?_eq_getElem hi) (j % 3) u e.symm
  rw [add_off]
  rw [show o + j = o + j / 3 * 3 + j % 3 by omega]
  exact this
/-- append(v, Locs...): and where the row lies. -/
theorem OwnLo.apps (h : OwnLo base w v ls) (a : Option Addr) (c : Nat) (hr : RowL w a xs) (hx : xs ≠ []) (hl : ls.length ≤ 1000) (hl2 : xs.length ≤ 1000) (hb : base ≤ w.heap.size) :
    ∃ v' w', (Builtin.append_ #[29, 29] 29 #[v, .slice a xs.length c]).run Tryd.prog w = .ok v' w' ∧ OwnLo base w' v' (ls ++ xs) ∧ w.grownBy w' v.ownBlock ∧ (v'.ownBlock = v.ownBlock ∨ v'.ownBlock = some w.heap.size) := by
  obtain ⟨g, o, rfl, hg, hc⟩ := hr.resolve_left hx
  have hc := rowL_cells hc
  obtain ⟨i0, z0, hi, hz, hz1, hz2, hz3⟩ := info_lo
  have h1 : ∀ u ∈ loV xs, u.oneCell' = true := loV_one xs
  have hlen : (loV xs).length = xs.length * 3 := loV_length xs
  obtain ⟨v', w', hrun, g1, g2, _⟩ := run_append_own (P := Tryd.prog) w base 29 29 36 i0 z0 3 24 Tryd.underlying29 hi hz hz1 hz2 hz3 (by decide) v ls.length (loV ls) h ⟨g, o, none⟩ xs.length c (loV xs) hlen
    hc h1 (by unfold maxLen; omega) (by omega) hb
  refine ⟨v', w', hrun, ?_, g2, append_where_m w w' v v' 29 29 36 i0 z0 base ls.length xs.length (loV ls) Tryd.underlying29 hi hz (by rw [hz1]; exact h) ⟨g, o, none⟩ c (loV xs) (by have := List.length_pos_iff.2 hx; omega) (by rw [hz1]; exact hlen) hc h1 (by omega) (by rw [hz2]; omega) hrun⟩
  show w'.ownsRow base _ 3 v' (ls ++ xs).length (loV (ls ++ xs))
  rw [loV_app, List.length_append]
  exact g1
theorem OwnLo.empty (w : World) : OwnLo w.heap.size (w.alloc (.cells #[] 36)) (.slice (some ⟨w.heap.size, 0, none⟩) 0 0) [] :=
  ⟨rfl, .inr ⟨w.heap.size, 0, #[], rfl, Nat.le_refl _, heap_alloc_new _ _, Nat.le_refl _, Nat.zero_le _, rfl, rfl⟩⟩
end
theorem clone_any (w : World) (a : Option Addr) (c : Nat) (ls : List Lo) (h : RowL w a ls) (hn : ls ≠ []) (hl : ls.length ≤ 1000) :
    Calls Tryd.prog 19 #[.slice a ls.length c] w fun e w' => ∃ v, e = .returned v ∧ OwnLo w.heap.size w' v ls ∧ Up Nul w w' := by
  have u0 : Up Nul w (w.alloc (.cells #[] 36)) := (Up.refl _ _).alloc _
  obtain ⟨v', w', hrun, h1, h2, _⟩ := (OwnLo.empty w).apps a c (h.nxt u0) hn (Nat.zero_le _) hl (by rw [World.size_alloc]; omega)
  have HE : Hid (OwnLo w.heap.size w' v' ls ∧ Up Nul w w') := ⟨h1, (Up.refl Nul w).trans (u0.grown h2 (fun k hk => by
    have e : w.heap.size = k := by injection hk
    omega))⟩
  obtain ⟨g, o, rfl, _, _⟩ := h.resolve_left hn
  clear h u0 h1 h2
  obtain ⟨n, N⟩ : ∃ n, Hid (ls.length = n) := ⟨_, rfl⟩
  rw [N.out] at hrun ⊢
  clear hl hn
  have heq : ∀ w : World, (binOp .eql 29 (.slice (some ⟨g, o, none⟩) n c) (.slice none 0 0)).run Tryd.prog w = .ok (.bool false) w := fun _ => by kernel_rfl
  go_enter Tryd.func19, Tryd.ntmps19
  go_wp2_with (first | (at_builtin; refine wpList_append_eqv rfl _ _ _ rfl _ _ _ rfl rfl hrun ?_))
  go_ret
  exact ⟨_, rfl, HE.out⟩
theorem clone_sh (w : World) (a : Option Addr) (c : Nat) (ls : List Lo) (h : RowL w a ls) (hn : ls ≠ []) (hl : ls.length ≤ 1000) :
    Calls Tryd.prog 19 #[.slice a ls.length c] w fun e w' => ∃ g c', e = .returned (.slice (some ⟨g, 0, none⟩) ls.length c') ∧ w.heap.size ≤ g ∧ g < w'.heap.size ∧ OwnLo 0 w' (.slice (some ⟨g, 0, none⟩) ls.length c') ls ∧ Up Nul w w' := by
  refine (clone_any w a c ls h hn hl).mono ?_
  rintro e w' ⟨v, rfl, ho, u⟩
  rcases ho.2 with ⟨_, e0⟩ | ⟨g, cap, cur, h1, h2, h3, h4⟩
  · exact absurd (List.eq_nil_of_length_eq_zero e0) hn
  · subst h1
    exact ⟨g, cap, rfl, h2, (Array.getElem?_eq_some_iff.1 h3).1, ⟨ho.1, .inr ⟨g, cap, cur, rfl, Nat.zero_le _, h3, h4⟩⟩, u⟩
end Go.Proofs.YtmhmlfgikmeejaaDoor
