/- Slices of ints that came in; an array of eight ints. -/
import Derived.Test.YtcehphnpffedhaaDiskLaw
import Derived.Deep.WholeRow
namespace Go.Proofs.Ytcehphnpffedhaa
open Go.RowKit
set_option linter.unusedVariables false

/-- A slice of ints that came in: each of its cells holds f there, in every world that is as w was. -/
structure SlI (w : World) (a : Option Addr) (n : Nat) (f : Nat → Int) : Prop where
  row : n = 0 ∨ ∃ g o, a = some ⟨g, o, none⟩ ∧ g < w.heap.size ∧ ∀ i, i < n → w.cell? ⟨g, o + i, none⟩ = some (.int .i64 (f i))
  le : n ≤ 9223372036854775807
theorem SlI.nxt {w w' : World} {a : Option Addr} {n : Nat} {f : Nat → Int} (h : SlI w a n f) (u : Up Nul w w') : SlI w' a n f := by
  refine ⟨?_, h.le⟩
  rcases h.row with e | ⟨g, o, e, l, r⟩
  · exact .inl e
  · exact .inr ⟨g, o, e, Nat.lt_of_lt_of_le l u.size, fun i hi => (u.cell (p := ⟨g, o + i, none⟩) l id).trans (r i hi)⟩
/-- What the row's step knows of a slice of ints. -/
abbrev CameI (w : World) (a : Option Addr) (len cap : Nat) (zs : List Int) : Prop :=
  (a = none ∧ len = 0 ∧ cap = 0 ∧ zs = []) ∨
  ∃ x, a = some x ∧ len ≤ cap ∧ cap ≤ maxLen ∧ zs.length = cap ∧ (∀ i, i < zs.length → w.cell? (x.add i) = some (.int .i64 (zs.getD i 0))) ∧ ∀ n ∈ zs, (Lit.int .i64 n).wf = true
theorem SlI.of {w : World} {a : Option Addr} {len cap : Nat} {zs : List Int} (h : CameI w a len cap zs) : ∃ f, SlI w a len f := by
  rcases h with ⟨_, h, _⟩ | ⟨x, rfl, hl, hm, hz, hc, hw⟩
  · exact ⟨fun _ => 0, .inl h, by omega⟩
  · unfold maxLen at hm
    by_cases h0 : len = 0
    · exact ⟨fun _ => 0, .inl h0, by omega⟩
    · obtain ⟨b, o, spot⟩ := x
      have hc0 := hc 0 (by omega)
      have hs : spot = none := by simpa [Addr.add] using World.cell?_spot hc0
      subst hs
      refine ⟨fun i => zs.getD i 0, .inr ⟨b, o, rfl, lt_of_cell hc0, fun i hi => ?_⟩, by omega⟩
      have := hc i (by omega)
      rw [add_off] at this
      exact this
/-! ### An array of eight ints -/
def arC (F : Nat → Nat) : List Value := (List.range 8).map fun i => Value.int .i64 ((F i : Nat) : Int)
theorem arC_length (F : Nat → Nat) : (arC F).length = 8 := by simp [arC]
theorem arC_at (F : Nat → Nat) (i : Nat) (h : i < 8) : (arC F)[i]? = some (.int .i64 ((F i : Nat) : Int)) := by simp [arC, h]
theorem arC_one (F : Nat → Nat) : ∀ v ∈ arC F, v.oneCell' = true := fun v hv => by
  obtain ⟨n, _, rfl⟩ := List.mem_map.1 hv
  rfl
structure Ar (w : World) (g : Nat) (F : Nat → Nat) : Prop where
  heap : w.heap[g]? = some (.cells (arC F).toArray 58 (0, 0))
theorem Ar.lt {w : World} {g : Nat} {F : Nat → Nat} (h : Ar w g F) : g < w.heap.size := (Array.getElem?_eq_some_iff.1 h.heap).1
theorem Ar.cell {w : World} {g : Nat} {F : Nat → Nat} (h : Ar w g F) {i : Nat} (hi : i < 8) : w.cell? ⟨g, i, none⟩ = some (.int .i64 ((F i : Nat) : Int)) := by
  simp only [World.cell?, h.heap]
  simpa using arC_at F i hi
theorem Ar.froz {w : World} {g : Nat} {F : Nat → Nat} (h : Ar w g F) (i : Nat) : w.frozen? ⟨g, i, none⟩ = false := by simp [World.frozen?, h.heap]
theorem Ar.ks {D : TypeId → Prop} {w w' : World} {g : Nat} {F : Nat → Nat} (h : Ar w g F) (k : Ks D w w') (hd : ¬ D 58) : Ar w' g F := ⟨k.kept _ _ _ _ h.heap hd⟩
theorem Ar.nxt {w w' : World} {g : Nat} {F : Nat → Nat} (h : Ar w g F) (u : Up Nul w w') : Ar w' g F := ⟨(u.block g h.lt id).trans h.heap⟩
theorem Ar.set {w : World} {g : Nat} {F : Nat → Nat} (h : Ar w g F) (s v : Nat) (hs : s < 8) : Ar (w.setCell ⟨g, s, none⟩ (.int .i64 (v : Int))) g (fun t => if t = s then v else F t) := by
  refine ⟨?_⟩
  have := heap_setCell_same w g s _ _ (.int .i64 (v : Int)) h.heap
  rw [this]
  congr 2
  apply Array.ext_getElem?
  intro i
  rw [Array.getElem?_setIfInBounds]
  simp only [List.size_toArray, List.getElem?_toArray, arC_length]
  by_cases hi : i < 8
  · rw [arC_at _ i hi]
    by_cases e : s = i
    · subst e
      rw [if_pos rfl, if_pos hi, arC_at _ s hs]
      simp
    · rw [if_neg e, arC_at _ i hi, if_neg (fun h => e h.symm)]
  · rw [List.getElem?_eq_none (by rw [arC_length]; omega), if_neg (by omega), List.getElem?_eq_none (by rw [arC_length]; omega)]
theorem ar_ks {w : World} {g : Nat} {F : Nat → Nat} (h : Ar w g F) (i : Nat) (v : Value) : Ks (fun t => t = 58) w (w.setCell ⟨g, i, none⟩ v) := ⟨by simp, fun k A T fr e d => by
  rw [Below.heap_setCell]
  · exact e
  · rintro rfl
    have := h.heap
    rw [e] at this
    injection this with this
    injection this with _ this _
    exact d this⟩
theorem dd_ar : ¬ DD 58 := by unfold DD; decide
theorem ar_dd : ∀ t, DD t → ¬ t = 58 := by
  intro t h e
  subst e
  exact dd_ar h
theorem info_ar : (Try.prog.info? 58).map (·.size) = some 8 := by kernel_rfl

/-! ### What is to lie there -/
/-- A slot that was filled with v, or never (0). -/
def cont (v : Nat) : List Nat := if v = 0 then zer 96 else ful v
theorem cont_pos {v : Nat} (h : 0 < v) : cont v = ful v := if_neg (by omega)
theorem fst_append (l : List (Nat × List Nat)) (s0 : Nat) (y : List Nat) (s : Nat) (r : List Nat) : fst (l ++ [(s0, y)]) s r = fst l s (if s0 = s then y else r) := by
  induction l with
  | nil => simp [fst]
  | cons p l ih => simp only [List.cons_append, fst, ih]
theorem crashR_zero (ps : List (Nat × List Nat)) (keep : Nat) (R : Nat → List Nat) (s : Nat) : crashR ps keep 0 R s = fst (ps.drop keep) s (R s) := by
  unfold crashR
  split
  · next h =>
    obtain ⟨h1, h2⟩ := h
    have e : ps.drop keep = ps.getD keep (0, []) :: ps.drop (keep + 1) := by
      rw [List.getD_eq_getElem?_getD, List.getElem?_eq_getElem h1]
      exact List.drop_eq_getElem_cons h1
    rw [List.take_zero, List.nil_append, List.drop_zero, e]
    simp only [fst]
    rw [if_pos h2.symm]
  · rfl
/-- One more write, seen from behind a crash. -/
theorem fst_write {ps : List (Nat × List Nat)} {keep i v : Nat} {R : Nat → List Nat} {G : Nat → Nat} (hl : ps.length = i) (hR : ∀ s, s < 8 → fst (ps.drop keep) s (R s) = cont (G s)) (s0 : Nat) (h0 : s0 < 8) (hv : 0 < v) :
    ∀ s, s < 8 → fst ((ps ++ [(s0, R s0)]).drop keep) s (upd R s0 (ful v) s) = cont (if i < keep then (if s = s0 then v else G s) else G s) := by
  intro s hs
  by_cases hk : i < keep
  · have e1 : (ps ++ [(s0, R s0)]).drop keep = [] := List.drop_eq_nil_of_le (by simp; omega)
    have e2 : ps.drop keep = [] := List.drop_eq_nil_of_le (by omega)
    have := hR s hs
    rw [e2] at this
    rw [e1, if_pos hk]
    unfold upd
    by_cases e : s = s0
    · rw [if_pos e, if_pos e, cont_pos hv]; rfl
    · rw [if_neg e, if_neg e]; exact this
  · rw [List.drop_append_of_le_length (by omega), fst_append, if_neg hk, ← hR s hs]
    congr 1
    unfold upd
    by_cases e : s0 = s
    · rw [if_pos e, e]
    · rw [if_neg e, if_neg (fun h => e h.symm)]
end Go.Proofs.Ytcehphnpffedhaa
