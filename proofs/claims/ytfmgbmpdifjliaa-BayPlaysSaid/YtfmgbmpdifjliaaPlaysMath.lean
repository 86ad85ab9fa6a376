/- What the program's Disk and the document's have in common, call by call. -/
import Derived.Test.YtfmgbmpdifjliaaRefCrash
namespace Go.Proofs.Ytfmgbmpdifjliaa
open Go.RowKit
set_option linter.unusedVariables false

/-- The same slots, the same writes pending; what is there of each is what lies beneath the next one to its slot. -/
structure Inv (n : Nat) (R : Nat → List Nat) (ps : List (Nat × List Nat)) (R' : Nat → List Nat) (ws : List Wt) : Prop where
  same : ∀ i, i < n → R' i = R i
  pend : pw ws = ps
  slot : ∀ k (hk : k < ws.length), ws[k].slot < n
  now : ∀ k (hk : k < ws.length), ws[k].now = fst (pw (ws.drop (k + 1))) ws[k].slot (R ws[k].slot)
theorem Inv.none {n : Nat} {R R' : Nat → List Nat} (h : ∀ i, i < n → R' i = R i) : Inv n R [] R' [] := ⟨h, rfl, fun k hk => absurd hk (Nat.not_lt_zero _), fun k hk => absurd hk (Nat.not_lt_zero _)⟩
theorem pw_append (a b : List Wt) : pw (a ++ b) = pw a ++ pw b := by simp [pw]
theorem pw_length (ws : List Wt) : (pw ws).length = ws.length := by simp [pw]
theorem pw_drop (ws : List Wt) (k : Nat) : pw (ws.drop k) = (pw ws).drop k := by simp [pw, List.map_drop]
theorem pfst_append (l : List (Nat × List Nat)) (s0 : Nat) (y : List Nat) (s : Nat) (r : List Nat) : fst (l ++ [(s0, y)]) s r = fst l s (if s0 = s then y else r) := by
  induction l with
  | nil => simp [fst]
  | cons p l ih => simp only [List.cons_append, fst, ih]
theorem Inv.write {n : Nat} {R R' : Nat → List Nat} {ps : List (Nat × List Nat)} {ws : List Wt} (h : Inv n R ps R' ws) {s : Nat} (hs : s < n) (y : List Nat) :
    Inv n (upd R s y) (ps ++ [(s, R s)]) (upd R' s y) (ws ++ [⟨s, R' s, y⟩]) := by
  refine ⟨fun i hi => ?_, ?_, fun k hk => ?_, fun k hk => ?_⟩
  · unfold upd
    split
    · rfl
    · exact h.same i hi
  · rw [pw_append, h.pend]
    show _ ++ [(s, R' s)] = _
    rw [h.same s hs]
  · by_cases e : k < ws.length
    · rw [List.getElem_append_left e]
      exact h.slot k e
    · rw [List.getElem_append_right (by omega)]
      simpa using hs
  · by_cases e : k < ws.length
    · rw [List.getElem_append_left e, List.drop_append_of_le_length (by omega), pw_append]
      show _ = fst (pw (ws.drop (k + 1)) ++ [(s, R' s)]) _ _
      rw [pfst_append, h.now k e]
      congr 1
      unfold upd
      by_cases e2 : s = ws[k].slot
      · rw [if_pos e2, h.same s hs, e2]
      · rw [if_neg e2, if_neg (fun h => e2 h.symm)]
    · have e3 : k = ws.length := by simp at hk; omega
      subst e3
      rw [List.getElem_append_right (Nat.le_refl _), List.drop_eq_nil_of_le (by simp)]
      simp [upd, fst, pw]
/-- Nothing that is pending later is of that slot. -/
theorem fst_none : ∀ (ws : List Wt) (s : Nat) (r : List Nat), (∀ x ∈ ws, x.slot ≠ s) → fst (pw ws) s r = r
  | [], _, _, _ => rfl
  | x :: ws, s, r, h => by
    show fst ((x.slot, x.was) :: pw ws) s r = r
    simp only [fst]
    rw [if_neg (h x (List.mem_cons_self ..)), fst_none ws s r fun y hy => h y (List.mem_cons_of_mem _ hy)]
/-- Something that is pending later is: what is there now does not matter. -/
theorem fst_some : ∀ (ws : List Wt) (s : Nat) (r q : List Nat), (∃ x ∈ ws, x.slot = s) → fst (pw ws) s r = fst (pw ws) s q
  | [], _, _, _, h => by obtain ⟨x, hx, _⟩ := h; cases hx
  | x :: ws, s, r, q, h => by
    show fst ((x.slot, x.was) :: pw ws) s r = fst ((x.slot, x.was) :: pw ws) s q
    simp only [fst]
    split
    · rfl
    · next e =>
      obtain ⟨z, hz, e2⟩ := h
      rcases List.mem_cons.1 hz with rfl | hz
      · exact absurd e2 e
      · exact fst_some ws s r q ⟨z, hz, e2⟩
theorem pw_set (ws : List Wt) (k : Nat) (hk : k < ws.length) (y : List Nat) : pw (ws.set k { ws[k] with now := y }) = pw ws := by
  unfold pw
  apply List.ext_getElem
  · simp
  · intro i h1 h2
    simp only [List.getElem_map, List.getElem_set]
    split
    · next e => subst e; rfl
    · rfl
theorem Inv.rot {n : Nat} {R R' : Nat → List Nat} {ps : List (Nat × List Nat)} {ws ws' : List Wt} (h : Inv n R ps R' ws) {s : Nat} (hs : s < n) (y : List Nat) (hw : RotW ws s y ws') :
    Inv n (upd R s y) ps (upd R' s y) ws' := by
  have hsame : ∀ i, i < n → upd R' s y i = upd R s y i := fun i hi => by
    unfold upd
    split
    · rfl
    · exact h.same i hi
  rcases hw with ⟨k, hk, e1, e2, rfl⟩ | ⟨e1, rfl⟩
  · refine ⟨hsame, by rw [pw_set]; exact h.pend, fun j hj => ?_, fun j hj => ?_⟩
    · have hj' : j < ws.length := by simpa using hj
      rw [List.getElem_set]
      split
      · next e => subst e; exact h.slot k hk
      · exact h.slot j hj'
    · have hj' : j < ws.length := by simpa using hj
      rw [pw_drop, pw_set, ← pw_drop, List.getElem_set]
      by_cases e : k = j
      · subst e
        rw [if_pos rfl]
        show y = fst (pw (ws.drop (k + 1))) ws[k].slot (upd R s y ws[k].slot)
        rw [fst_none _ _ _ fun x hx => by
          obtain ⟨i, hi, rfl⟩ := List.mem_iff_getElem.1 hx
          rw [List.getElem_drop]
          rw [e1]
          exact e2 _ _ (by omega)]
        unfold upd
        rw [if_pos e1]
      · rw [if_neg e, h.now j hj']
        by_cases e3 : ws[j].slot = s
        · have hlt : j < k := by
            rcases Nat.lt_or_gt_of_ne e with e4 | e4
            · exact absurd e3 (e2 j hj' e4)
            · exact e4
          exact fst_some _ _ _ _ ⟨ws[k], by
            rw [List.mem_iff_getElem]
            exact ⟨k - (j + 1), by rw [List.length_drop]; omega, by rw [List.getElem_drop]; congr 1; omega⟩, by rw [e1, e3]⟩
        · congr 1
          unfold upd
          rw [if_neg e3]
  · refine ⟨hsame, h.pend, h.slot, fun j hj => ?_⟩
    rw [h.now j hj]
    congr 1
    unfold upd
    rw [if_neg (e1 j hj)]
theorem Inv.crash {n : Nat} {R R' : Nat → List Nat} {ps : List (Nat × List Nat)} {ws : List Wt} (h : Inv n R ps R' ws) (keep torn : Nat) : ∀ i, i < n → rcrashR ws keep torn R' i = crashR ps keep torn R i := by
  intro i hi
  have hl : ps.length = ws.length := by rw [← h.pend, pw_length]
  unfold rcrashR crashR
  rw [h.same i hi, hl, ← h.pend]
  by_cases hk : keep < ws.length
  · have e1 : ws.getD keep noWt = ws[keep] := by rw [List.getD_eq_getElem?_getD, List.getElem?_eq_getElem hk]; rfl
    have e2 : (pw ws).getD keep (0, []) = (ws[keep].slot, ws[keep].was) := by
      rw [List.getD_eq_getElem?_getD]
      simp [pw, List.getElem?_eq_getElem hk]
    rw [e1, e2]
    by_cases e : i = ws[keep].slot
    · rw [if_pos ⟨hk, e⟩, if_pos ⟨hk, e⟩, h.now keep hk, pw_drop, e]
    · rw [if_neg (fun h => e h.2), if_neg (fun h => e h.2), pw_drop]
  · rw [if_neg (fun h => hk h.1), if_neg (fun h => hk h.1), pw_drop]
end Go.Proofs.Ytfmgbmpdifjliaa
