/- Rows of ints and of Locs that the call itself has made. -/
import Derived.Test.YtmhmlfgikmeejaaDoorMtMath
import Derived.Deep.RegionLaw
namespace Go.Proofs.YtmhmlfgikmeejaaDoor
open Go.RowKit
set_option linter.unusedVariables false

def intV (zs : List Int) : List Value := zs.map fun z => Value.int .i64 z
def OwnI (base : Nat) (w : World) (v : Value) (zs : List Int) : Prop := OwnV 3 base w v (intV zs)
def loV (ls : List Lo) : List Value := ls.flatMap Lo.cells
theorem loV_length (ls : List Lo) : (loV ls).length = ls.length * 3 := by
  induction ls with
  | nil => rfl
  | cons c l ih => simp only [loV, List.flatMap_cons, List.length_append, List.length_cons] at ih ⊢; rw [ih]; simp [Lo.cells]; omega
theorem loV_one (ls : List Lo) : ∀ v ∈ loV ls, v.oneCell' = true := by
  intro v hv
  obtain ⟨c, _, hv⟩ := List.mem_flatMap.1 hv
  simp only [Lo.cells, List.mem_cons, List.not_mem_nil, or_false] at hv
  rcases hv with rfl | rfl | rfl <;> rfl
theorem loV_at (ls : List Lo) : ∀ s j : Nat, j < 3 → ∀ c, ls[s]? = some c → (loV ls)[s * 3 + j]? = c.cells[j]? := by
  induction ls with
  | nil => intro s j _ c h; simp at h
  | cons c0 l ih =>
    intro s j hj c h
    have e : loV (c0 :: l) = c0.cells ++ loV l := by simp [loV]
    have h3 : c0.cells.length = 3 := rfl
    cases s with
    | zero =>
      have : c0 = c := by simpa using h
      subst this
      rw [e, Nat.zero_mul, Nat.zero_add, List.getElem?_append_left (by omega)]
    | succ s =>
      have h : l[s]? = some c := by simpa using h
      rw [e, List.getElem?_append_right (by omega), h3, show (s + 1) * 3 + j - 3 = s * 3 + j by omega]
      exact ih s j hj c h
def OwnLo (base : Nat) (w : World) (v : Value) (ls : List Lo) : Prop := w.ownsRow base 36 3 v ls.length (loV ls)
section
variable {base : Nat} {w w' : World} {v : Value} {ls : List Lo} {zs : List Int}
theorem OwnLo.nil (base : Nat) (w : World) : OwnLo base w (.slice none 0 0) [] := World.ownsRow_nil _ _ _ _
theorem OwnI.nil (base : Nat) (w : World) : OwnI base w (.slice none 0 0) [] := World.ownsRow_nil _ _ _ _
theorem OwnLo.up {S : Nat → Prop} (h : OwnLo base w v ls) (u : Up S w w') (hs : ∀ k, base ≤ k → k < w.heap.size → ¬ S k) : OwnLo base w' v ls := by
  refine ⟨h.1, ?_⟩
  rcases h.2 with hn | ⟨g, cap, cur, h1, h2, h3, h4⟩
  · exact .inl hn
  · have hl := (Array.getElem?_eq_some_iff.1 h3).1
    exact .inr ⟨g, cap, cur, h1, h2, (u.block g hl (hs g h2 hl)).trans h3, h4⟩
theorem OwnI.up {S : Nat → Prop} (h : OwnI base w v zs) (u : Up S w w') (hs : ∀ k, base ≤ k → k < w.heap.size → ¬ S k) : OwnI base w' v zs := OwnV.up h u hs
theorem OwnLo.bs (h : OwnLo base w v ls) : ∀ k, v.ownBlock = some k → base ≤ k := fun k hk => (World.ownsRow.lt h k hk).1
theorem OwnI.bs (h : OwnI base w v zs) : ∀ k, v.ownBlock = some k → base ≤ k := fun k hk => (World.ownsRow.lt h k hk).1
theorem OwnI.shape (h : OwnI base w v zs) : ∃ a cap, v = .slice a zs.length cap := by
  obtain ⟨a, c, e⟩ := OwnV.shape h
  exact ⟨a, c, by rw [e, intV, List.length_map]⟩
theorem OwnLo.shape (h : OwnLo base w v ls) : ∃ a cap, v = .slice a ls.length cap := by
  rcases h.2 with ⟨e, e0⟩ | ⟨g, cap, cur, e, _⟩
  · exact ⟨none, 0, by rw [e, e0]⟩
  · exact ⟨_, _, e⟩
theorem OwnI.row (h : OwnI base w v zs) : ∃ a c, v = .slice a zs.length c ∧ RowI w a zs := by
  obtain ⟨a, c, e⟩ := h.shape
  refine ⟨a, c, e, ?_⟩
  rcases zs with _ | ⟨z, zs⟩
  · exact .inl rfl
  · obtain ⟨g, cap, e1, _, hg, hc, _⟩ := OwnV.row h (by simp [intV])
    rw [e] at e1
    refine .inr ⟨g, 0, ?_, hg, fun i x hi => ?_⟩
    · injection e1
    · rw [Nat.zero_add]
      exact hc i _ (by rw [intV, List.getElem?_map, hi]; rfl)
theorem OwnLo.row (h : OwnLo base w v ls) : ∃ a c, v = .slice a ls.length c ∧ RowL w a ls := by
  rcases h.2 with ⟨e, e0⟩ | ⟨g, cap, cur, h1, h2, h3, h4, h5, h6, h7⟩
  · exact ⟨none, 0, by rw [e, e0], .inl (List.eq_nil_of_length_eq_zero e0)⟩
  · refine ⟨_, _, h1, .inr ⟨g, 0, rfl, (Array.getElem?_eq_some_iff.1 h3).1, fun i l hi j x hx => ?_⟩⟩
    have hil : i < ls.length := by
      rcases Nat.lt_or_ge i ls.length with h | h
      · exact h
      · rw [List.getElem?_eq_none h] at hi; cases hi
    have hj : j < 3 := by
      rcases Nat.lt_or_ge j 3 with e | e
      · exact e
      · rw [List.getElem?_eq_none (by exact e)] at hx; cases hx
    have e := loV_at ls i j hj l hi
    rw [← h7, List.getElem?_take, if_pos (by omega), hx] at e
    simp only [World.cell?, h3, Nat.zero_add]
    simpa using e
theorem info_lo : ∃ i z, Tryd.prog.info? 36 = some i ∧ i.zero = some z ∧ i.size = 3 ∧ i.bytes = 24 ∧ z.cells.size = 3 := by
  have h : (Tryd.prog.info? 36).map (fun i => (i.size, i.bytes, i.zero.map fun z => z.cells.size)) = some (3, 24, some 3) := by kernel_rfl
  cases e : Tryd.prog.info? 36 with
  | none => rw [e] at h; cases h
  | some i =>
    rw [e] at h
    simp only [Option.map_some, Option.some.injEq, Prod.mk.injEq, Option.map_eq_some_iff] at h
    obtain ⟨h1, h2, z, h3, h4⟩ := h
    exact ⟨i, z, rfl, h3, h1, h2, h4⟩
/-- append(v, one int). -/
theorem OwnI.app (h : OwnI base w v zs) (x : Int) (ad : Addr) (hc : w.cell? ad = some (.int .i64 x)) (c : Nat) (hl : zs.length ≤ 1000) (hb : base ≤ w.heap.size) :
    ∃ v' w', (Builtin.append_ #[22, 22] 22 #[v, .slice (some ad) 1 c]).run Tryd.prog w = .ok v' w' ∧ OwnI base w' v' (zs ++ [x]) ∧ w.grownBy w' v.ownBlock := by
  obtain ⟨i0, hi, hz, hz1, hz2⟩ := info_parts info_int
  obtain ⟨v', w', hrun, g1, g2, _⟩ := run_append_own (P := Tryd.prog) w base 22 22 3 i0 _ 1 8 Tryd.underlying22 hi hz hz1 hz2 rfl (by decide) v (intV zs).length (intV zs) h ad 1 c [.int .i64 x] rfl
    (fun j u hj => by
      match j, hj with
      | 0, hj => simp at hj; subst hj; simpa [Addr.add] using hc) (fun u hu => by
      obtain rfl : u = .int .i64 x := by simpa using hu
      rfl) (by unfold maxLen; simp [intV]; omega) (by simp [intV]; omega) hb
  refine ⟨v', w', hrun, ?_, g2⟩
  show w'.ownsRow base _ 1 v' (intV (zs ++ [x])).length (intV (zs ++ [x]))
  rw [show intV (zs ++ [x]) = intV zs ++ [.int .i64 x] by simp [intV], List.length_append]
  exact g1
/-- append(v, one Loc). -/
theorem OwnLo.app (h : OwnLo base w v ls) (x : Lo) (g : Nat) (hc : ∀ j u, x.cells[j]? = some u → w.cell? ⟨g, j, none⟩ = some u) (c : Nat) (hl : ls.length ≤ 1000) (hb : base ≤ w.heap.size) :
    ∃ v' w', (Builtin.append_ #[29, 29] 29 #[v, .slice (some ⟨g, 0, none⟩) 1 c]).run Tryd.prog w = .ok v' w' ∧ OwnLo base w' v' (ls ++ [x]) ∧ w.grownBy w' v.ownBlock := by
  obtain ⟨i0, z0, hi, hz, hz1, hz2, hz3⟩ := info_lo
  obtain ⟨v', w', hrun, g1, g2, _⟩ := run_append_own (P := Tryd.prog) w base 29 29 36 i0 z0 3 24 Tryd.underlying29 hi hz hz1 hz2 hz3 (by decide) v ls.length (loV ls) h ⟨g, 0, none⟩ 1 c x.cells rfl
    (fun j u hj => by rw [add_off, Nat.zero_add]; exact hc j u hj) (fun u hu => by
      simp only [Lo.cells, List.mem_cons, List.not_mem_nil, or_false] at hu
      rcases hu with rfl | rfl | rfl <;> rfl) (by unfold maxLen; omega) (by omega) hb
  refine ⟨v', w', hrun, ?_, g2⟩
  show w'.ownsRow base _ 3 v' (ls ++ [x]).length (loV (ls ++ [x]))
  rw [show loV (ls ++ [x]) = loV ls ++ x.cells by simp [loV], List.length_append]
  exact g1
end
/-- .. and where the row lies. -/
theorem OwnLo.appw {base : Nat} {w : World} {v : Value} {ls : List Lo} (h : OwnLo base w v ls) (x : Lo) (g : Nat) (hc : ∀ j u, x.cells[j]? = some u → w.cell? ⟨g, j, none⟩ = some u) (c : Nat) (hl : ls.length ≤ 1000) (hb : base ≤ w.heap.size) :
    ∃ v' w', (Builtin.append_ #[29, 29] 29 #[v, .slice (some ⟨g, 0, none⟩) 1 c]).run Tryd.prog w = .ok v' w' ∧ OwnLo base w' v' (ls ++ [x]) ∧ w.grownBy w' v.ownBlock ∧ (v'.ownBlock = v.ownBlock ∨ v'.ownBlock = some w.heap.size) := by
  obtain ⟨v', w', hrun, h1, h2⟩ := h.app x g hc c hl hb
  obtain ⟨i0, z0, hi, hz, hz1, hz2, hz3⟩ := info_lo
  refine ⟨v', w', hrun, h1, h2, append_where_m w w' v v' 29 29 36 i0 z0 base ls.length 1 (loV ls) Tryd.underlying29 hi hz (by rw [hz1]; exact h) ⟨g, 0, none⟩ c x.cells (by omega) (by rw [hz1]; rfl) (fun j u hj => by rw [add_off, Nat.zero_add]; exact hc j u hj) (fun u hu => by
    simp only [Lo.cells, List.mem_cons, List.not_mem_nil, or_false] at hu
    rcases hu with rfl | rfl | rfl <;> rfl) (by omega) (by rw [hz2]; omega) hrun⟩
/-- A row is as it was where another one has grown. -/
theorem OwnI.grown {base : Nat} {w w' : World} {v : Value} {zs : List Int} {row : Option Nat} (h : OwnI base w v zs) (g : w.grownBy w' row) (hd : ∀ k, v.ownBlock = some k → row ≠ some k) : OwnI base w' v zs := by
  refine ⟨h.1, ?_⟩
  rcases h.2 with hn | ⟨b, cap, cur, h1, h2, h3, h4⟩
  · exact .inl hn
  · exact .inr ⟨b, cap, cur, h1, h2, (g.block b (Array.getElem?_eq_some_iff.1 h3).1 (fun e => hd b (by rw [h1]; rfl) e.symm)).trans h3, h4⟩
/-- An append whose run is known, in a drawn region. -/
theorem step_append_eqv {w w' : World} {ops : Array Oper} {o : Oper} {a : Act} {K : Act → World → Prop} {Q : Exit → Act → World → Prop} {E : Prop} (hgd : o.guard = none) (s x : Operand) (t : TypeId)
    (ho : o.op = .call { callee := .builtin .append, args := #[s, x], argTypes := #[t, t] }) (v y v' : Value) (hs : a.eval s = v) (hx : a.eval x = y) (hrun : (Builtin.append_ #[t, t] o.type #[v, y]).run Tryd.prog w = .ok v' w') (h : K (a.put o.dst v') w') : if Region.wanted o (yielded ops a.tmps) = true then Oper.wp Tryd.prog o a w K Q else E := by
  rw [if_pos (by simp [Region.wanted, hgd])]
  exact wp_append_eqv s x t ho v y v' hs hx hrun h
end Go.Proofs.YtmhmlfgikmeejaaDoor
