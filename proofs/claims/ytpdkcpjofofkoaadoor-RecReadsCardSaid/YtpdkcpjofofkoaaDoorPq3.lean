/- Rows of ints and of Locs that 'read' makes. -/
import Derived.Test.YtpdkcpjofofkoaaDoorPkTidy
import Derived.Test.YtpdkcpjofofkoaaDoorPq2
import Derived.Deep.RegionLaw
import Derived.Laws.BitsAllLaws
import Derived.Test.YtpdkcpjofofkoaaDoorPq1
namespace Go.Proofs.YtpdkcpjofofkoaaDoor
open Go.RowKit
set_option linter.unusedVariables false

def intV (zs : List Int) : List Value := zs.map fun z => Value.int .i64 z
def OwnI (base : Nat) (w : World) (v : Value) (zs : List Int) : Prop := OwnV 3 base w v (intV zs)
def loV (ls : List Lo) : List Value := ls.flatMap Lo.cells
theorem loV_length (ls : List Lo) : (loV ls).length = ls.length * 3 := by
 induction ls with
 | nil => rfl
 | cons c l ih => simp only [loV, List.flatMap_cons, List.length_append, List.length_cons] at ih ⊢; rw [ih]; simp [Lo.cells]; omega
theorem loV_one (ls : List Lo) : ∀ v ∈ loV ls, v.oneCell' = true := by
 intro v hv
 obtain ⟨c, _, hv⟩ := List.mem_flatMap.1 hv
 simp only [Lo.cells, List.mem_cons, List.not_mem_nil, or_false] at hv
 rcases hv with rfl | rfl | rfl <;> rfl
theorem loV_at (ls : List Lo) : ∀ s j : Nat, j < 3 → ∀ c, ls[s]? = some c → (loV ls)[s * 3 + j]? = c.cells[j]? := by
 induction ls with
 | nil => intro s j _ c h; simp at h
 | cons c0 l ih =>
  intro s j hj c h
  have e : loV (c0 :: l) = c0.cells ++ loV l := by simp [loV]
  have h3 : c0.cells.length = 3 := rfl
  cases s with
  | zero =>
   have : c0 = c := by simpa using h
   subst this
   rw [e, Nat.zero_mul, Nat.zero_add, List.getElem?_append_left (by omega)]
  | succ s =>
   have h : l[s]? = some c := by simpa using h
   rw [e, List.getElem?_append_right (by omega), h3, show (s + 1) * 3 + j - 3 = s * 3 + j by omega]
   exact ih s j hj c h
def OwnLo (base : Nat) (w : World) (v : Value) (ls : List Lo) : Prop := w.ownsRow base 31 3 v ls.length (loV ls)
section
variable {base : Nat} {w w' : World} {v : Value} {ls : List Lo} {zs : List Int}
theorem OwnLo.nil (base : Nat) (w : World) : OwnLo base w (.slice none 0 0) [] := World.ownsRow_nil _ _ _ _
theorem OwnI.nil (base : Nat) (w : World) : OwnI base w (.slice none 0 0) [] := World.ownsRow_nil _ _ _ _
theorem OwnLo.up {S : Nat → Prop} (h : OwnLo base w v ls) (u : Up S w w') (hs : ∀ k, base ≤ k → k < w.heap.size → ¬ S k) : OwnLo base w' v ls := by
 refine ⟨h.1, ?_⟩
 rcases h.2 with hn | ⟨g, cap, cur, h1, h2, h3, h4⟩
 ·exact .inl hn
 ·have hl := (Array.getElem?_eq_some_iff.1 h3).1
  exact .inr ⟨g, cap, cur, h1, h2, (u.block g hl (hs g h2 hl)).trans h3, h4⟩
theorem OwnI.up {S : Nat → Prop} (h : OwnI base w v zs) (u : Up S w w') (hs : ∀ k, base ≤ k → k < w.heap.size → ¬ S k) : OwnI base w' v zs := OwnV.up h u hs
theorem OwnLo.bs (h : OwnLo base w v ls) : ∀ k, v.ownBlock = some k → base ≤ k := fun k hk => (World.ownsRow.lt h k hk).1
theorem OwnI.bs (h : OwnI base w v zs) : ∀ k, v.ownBlock = some k → base ≤ k := fun k hk => (World.ownsRow.lt h k hk).1
theorem OwnI.shape (h : OwnI base w v zs) : ∃ a cap, v = .slice a zs.length cap := by
 obtain ⟨a, c, e⟩ := OwnV.shape h
 exact ⟨a, c, by rw [e, intV, List.length_map]⟩
theorem OwnLo.shape (h : OwnLo base w v ls) : ∃ a cap, v = .slice a ls.length cap := by
 rcases h.2 with ⟨e, e0⟩ | ⟨g, cap, cur, e, _⟩
 ·exact ⟨none, 0, by rw [e, e0]⟩
 ·exact ⟨_, _, e⟩
theorem OwnI.row (h : OwnI base w v zs) : ∃ a c, v = .slice a zs.length c ∧ RowI w a zs := by
 obtain ⟨a, c, e⟩ := h.shape
 refine ⟨a, c, e, ?_⟩
 rcases zs with _ | ⟨z, zs⟩
 ·exact .inl rfl
 ·obtain ⟨g, cap, e1, _, hg, hc, _⟩ := OwnV.row h (by simp [intV])
  rw [e] at e1
  refine .inr ⟨g, 0, ?_, hg, fun i x hi => ?_⟩
  ·injection e1
  ·rw [Nat.zero_add]
   exact hc i _ (by rw [intV, List.getElem?_map, hi]; rfl)
theorem OwnLo.row (h : OwnLo base w v ls) : ∃ a c, v = .slice a ls.length c ∧ RowL w a ls := by
 rcases h.2 with ⟨e, e0⟩ | ⟨g, cap, cur, h1, h2, h3, h4, h5, h6, h7⟩
 ·exact ⟨none, 0, by rw [e, e0], .inl (List.eq_nil_of_length_eq_zero e0)⟩
 ·refine ⟨_, _, h1, .inr ⟨g, 0, rfl, (Array.getElem?_eq_some_iff.1 h3).1, fun i l hi j x hx => ?_⟩⟩
  have hil : i < ls.length := by
   rcases Nat.lt_or_ge i ls.length with h | h
   ·exact h
   ·rw [List.getElem?_eq_none h] at hi; cases hi
  have hj : j < 3 := by
   rcases Nat.lt_or_ge j 3 with e | e
   ·exact e
   ·rw [List.getElem?_eq_none (by exact e)] at hx; cases hx
  have e := loV_at ls i j hj l hi
  rw [← h7, List.getElem?_take, if_pos (by omega), hx] at e
  simp only [World.cell?, h3, Nat.zero_add]
  simpa using e
theorem info_lo : ∃ i z, Tryd.prog.info? 31 = some i ∧ i.zero = some z ∧ i.size = 3 ∧ i.bytes = 24 ∧ z.cells.size = 3 := by
 have h : (Tryd.prog.info? 31).map (fun i => (i.size, i.bytes, i.zero.map fun z => z.cells.size)) = some (3, 24, some 3) := by kernel_rfl
 cases e : Tryd.prog.info? 31 with
 | none => rw [e] at h; cases h
 | some i =>
  rw [e] at h
  simp only [Option.map_some, Option.some.injEq, Prod.mk.injEq, Option.map_eq_some_iff] at h
  obtain ⟨h1, h2, z, h3, h4⟩ := h
  exact ⟨i, z, rfl, h3, h1, h2, h4⟩
/-- append(v, one int). -/
theorem OwnI.app (h : OwnI base w v zs) (x : Int) (ad : Addr) (hc : w.cell? ad = some (.int .i64 x)) (c : Nat) (hl : zs.length ≤ 1000) (hb : base ≤ w.heap.size) :
  ∃ v' w', (Builtin.append_ #[22, 22] 22 #[v, .slice (some ad) 1 c]).run Tryd.prog w = .ok v' w' ∧ OwnI base w' v' (zs ++ [x]) ∧ w.grownBy w' v.ownBlock := by
 obtain ⟨i0, hi, hz, hz1, hz2⟩ := info_parts info_int
 obtain ⟨v', w', hrun, g1, g2, _⟩ := run_append_own (P := Tryd.prog) w base 22 22 3 i0 _ 1 8 Tryd.underlying22 hi hz hz1 hz2 rfl (by decide) v (intV zs).length (intV zs) h ad 1 c [.int .i64 x] rfl
  (fun j u hj => by
   match j, hj with
   | 0, hj => simp at hj; subst hj; simpa [Addr.add] using hc) (fun u hu => by
   obtain rfl : u = .int .i64 x := by simpa using hu
   rfl) (by unfold maxLen; simp [intV]; omega) (by simp [intV]; omega) hb
 refine ⟨v', w', hrun, ?_, g2⟩
 show w'.ownsRow base _ 1 v' (intV (zs ++ [x])).length (intV (zs ++ [x]))
 rw [show intV (zs ++ [x]) = intV zs ++ [.int .i64 x] by simp [intV], List.length_append]
 exact g1
/-- append(v, one Loc). -/
theorem OwnLo.app (h : OwnLo base w v ls) (x : Lo) (g : Nat) (hc : ∀ j u, x.cells[j]? = some u → w.cell? ⟨g, j, none⟩ = some u) (c : Nat) (hl : ls.length ≤ 1000) (hb : base ≤ w.heap.size) :
  ∃ v' w', (Builtin.append_ #[23, 23] 23 #[v, .slice (some ⟨g, 0, none⟩) 1 c]).run Tryd.prog w = .ok v' w' ∧ OwnLo base w' v' (ls ++ [x]) ∧ w.grownBy w' v.ownBlock := by
 obtain ⟨i0, z0, hi, hz, hz1, hz2, hz3⟩ := info_lo
 obtain ⟨v', w', hrun, g1, g2, _⟩ := run_append_own (P := Tryd.prog) w base 23 23 31 i0 z0 3 24 Tryd.underlying23 hi hz hz1 hz2 hz3 (by decide) v ls.length (loV ls) h ⟨g, 0, none⟩ 1 c x.cells rfl
  (fun j u hj => by rw [add_off, Nat.zero_add]; exact hc j u hj) (fun u hu => by
   simp only [Lo.cells, List.mem_cons, List.not_mem_nil, or_false] at hu
   rcases hu with rfl | rfl | rfl <;> rfl) (by unfold maxLen; omega) (by omega) hb
 refine ⟨v', w', hrun, ?_, g2⟩
 show w'.ownsRow base _ 3 v' (ls ++ [x]).length (loV (ls ++ [x]))
 rw [show loV (ls ++ [x]) = loV ls ++ x.cells by simp [loV], List.length_append]
 exact g1
end
/-- .. and where the row lies. -/
theorem OwnLo.appw {base : Nat} {w : World} {v : Value} {ls : List Lo} (h : OwnLo base w v ls) (x : Lo) (g : Nat) (hc : ∀ j u, x.cells[j]? = some u → w.cell? ⟨g, j, none⟩ = some u) (c : Nat) (hl : ls.length ≤ 1000) (hb : base ≤ w.heap.size) :
  ∃ v' w', (Builtin.append_ #[23, 23] 23 #[v, .slice (some ⟨g, 0, none⟩) 1 c]).run Tryd.prog w = .ok v' w' ∧ OwnLo base w' v' (ls ++ [x]) ∧ w.grownBy w' v.ownBlock ∧ (v'.ownBlock = v.ownBlock ∨ v'.ownBlock = some w.heap.size) := by
 obtain ⟨v', w', hrun, h1, h2⟩ := h.app x g hc c hl hb
 obtain ⟨i0, z0, hi, hz, hz1, hz2, hz3⟩ := info_lo
 refine ⟨v', w', hrun, h1, h2, append_where_m w w' v v' 23 23 31 i0 z0 base ls.length 1 (loV ls) Tryd.underlying23 hi hz (by rw [hz1]; exact h) ⟨g, 0, none⟩ c x.cells (by omega) (by rw [hz1]; rfl) (fun j u hj => by rw [add_off, Nat.zero_add]; exact hc j u hj) (fun u hu => by
  simp only [Lo.cells, List.mem_cons, List.not_mem_nil, or_false] at hu
  rcases hu with rfl | rfl | rfl <;> rfl) (by omega) (by rw [hz2]; omega) hrun⟩
/-- A row is as it was where another one has grown. -/
theorem OwnI.grown {base : Nat} {w w' : World} {v : Value} {zs : List Int} {row : Option Nat} (h : OwnI base w v zs) (g : w.grownBy w' row) (hd : ∀ k, v.ownBlock = some k → row ≠ some k) : OwnI base w' v zs := by
 refine ⟨h.1, ?_⟩
 rcases h.2 with hn | ⟨b, cap, cur, h1, h2, h3, h4⟩
 ·exact .inl hn
 ·exact .inr ⟨b, cap, cur, h1, h2, (g.block b (Array.getElem?_eq_some_iff.1 h3).1 (fun e => hd b (by rw [h1]; rfl) e.symm)).trans h3, h4⟩
/-- An append whose run is known, in a drawn region. -/
theorem step_append_eqv {w w' : World} {ops : Array Oper} {o : Oper} {a : Act} {K : Act → World → Prop} {Q : Exit → Act → World → Prop} {E : Prop} (hgd : o.guard = none) (s x : Operand) (t : TypeId)
  (ho : o.op = .call { callee := .builtin .append, args := #[s, x], argTypes := #[t, t] }) (v y v' : Value) (hs : a.eval s = v) (hx : a.eval x = y) (hrun : (Builtin.append_ #[t, t] o.type #[v, y]).run Tryd.prog w = .ok v' w') (h : K (a.put o.dst v') w') : if Region.wanted o (yielded ops a.tmps) = true then Oper.wp Tryd.prog o a w K Q else E := by
 rw [if_pos (by simp [Region.wanted, hgd])]
 exact wp_append_eqv s x t ho v y v' hs hx hrun h
theorem heap13s {w : World} {g : Nat} {T : TypeId} {fr : Nat × Nat} {c0 c1 c2 c3 c4 c5 c6 c7 c8 c9 c10 c11 c12 : Value} (h : w.heap[g]? = some (.cells #[c0, c1, c2, c3, c4, c5, c6, c7, c8, c9, c10, c11, c12] T fr)) (v0 v1 v2 v3 v4 v5 v6 v7 v8 v9 v10 v11 v12 : Value) :
  (((((((((((((w.setCell ⟨g, 0, none⟩ v0).setCell ⟨g, 1, none⟩ v1).setCell ⟨g, 2, none⟩ v2).setCell ⟨g, 3, none⟩ v3).setCell ⟨g, 4, none⟩ v4).setCell ⟨g, 5, none⟩ v5).setCell ⟨g, 6, none⟩ v6).setCell ⟨g, 7, none⟩ v7).setCell ⟨g, 8, none⟩ v8).setCell ⟨g, 9, none⟩ v9).setCell ⟨g, 10, none⟩ v10).setCell ⟨g, 11, none⟩ v11).setCell ⟨g, 12, none⟩ v12).heap[g]? = some (.cells #[v0, v1, v2, v3, v4, v5, v6, v7, v8, v9, v10, v11, v12] T fr) := by
 have h0 : (w.setCell ⟨g, 0, none⟩ v0).heap[g]? = some (.cells #[v0, c1, c2, c3, c4, c5, c6, c7, c8, c9, c10, c11, c12] T fr) := heap_set_same h 0 v0
 have h1 : ((w.setCell ⟨g, 0, none⟩ v0).setCell ⟨g, 1, none⟩ v1).heap[g]? = some (.cells #[v0, v1, c2, c3, c4, c5, c6, c7, c8, c9, c10, c11, c12] T fr) := heap_set_same h0 1 v1
 have h2 : (((w.setCell ⟨g, 0, none⟩ v0).setCell ⟨g, 1, none⟩ v1).setCell ⟨g, 2, none⟩ v2).heap[g]? = some (.cells #[v0, v1, v2, c3, c4, c5, c6, c7, c8, c9, c10, c11, c12] T fr) := heap_set_same h1 2 v2
 have h3 : ((((w.setCell ⟨g, 0, none⟩ v0).setCell ⟨g, 1, none⟩ v1).setCell ⟨g, 2, none⟩ v2).setCell ⟨g, 3, none⟩ v3).heap[g]? = some (.cells #[v0, v1, v2, v3, c4, c5, c6, c7, c8, c9, c10, c11, c12] T fr) := heap_set_same h2 3 v3
 have h4 : (((((w.setCell ⟨g, 0, none⟩ v0).setCell ⟨g, 1, none⟩ v1).setCell ⟨g, 2, none⟩ v2).setCell ⟨g, 3, none⟩ v3).setCell ⟨g, 4, none⟩ v4).heap[g]? = some (.cells #[v0, v1, v2, v3, v4, c5, c6, c7, c8, c9, c10, c11, c12] T fr) := heap_set_same h3 4 v4
 have h5 : ((((((w.setCell ⟨g, 0, none⟩ v0).setCell ⟨g, 1, none⟩ v1).setCell ⟨g, 2, none⟩ v2).setCell ⟨g, 3, none⟩ v3).setCell ⟨g, 4, none⟩ v4).setCell ⟨g, 5, none⟩ v5).heap[g]? = some (.cells #[v0, v1, v2, v3, v4, v5, c6, c7, c8, c9, c10, c11, c12] T fr) := heap_set_same h4 5 v5
 have h6 : (((((((w.setCell ⟨g, 0, none⟩ v0).setCell ⟨g, 1, none⟩ v1).setCell ⟨g, 2, none⟩ v2).setCell ⟨g, 3, none⟩ v3).setCell ⟨g, 4, none⟩ v4).setCell ⟨g, 5, none⟩ v5).setCell ⟨g, 6, none⟩ v6).heap[g]? = some (.cells #[v0, v1, v2, v3, v4, v5, v6, c7, c8, c9, c10, c11, c12] T fr) := heap_set_same h5 6 v6
 have h7 : ((((((((w.setCell ⟨g, 0, none⟩ v0).setCell ⟨g, 1, none⟩ v1).setCell ⟨g, 2, none⟩ v2).setCell ⟨g, 3, none⟩ v3).setCell ⟨g, 4, none⟩ v4).setCell ⟨g, 5, none⟩ v5).setCell ⟨g, 6, none⟩ v6).setCell ⟨g, 7, none⟩ v7).heap[g]? = some (.cells #[v0, v1, v2, v3, v4, v5, v6, v7, c8, c9, c10, c11, c12] T fr) := heap_set_same h6 7 v7
 have h8 : (((((((((w.setCell ⟨g, 0, none⟩ v0).setCell ⟨g, 1, none⟩ v1).setCell ⟨g, 2, none⟩ v2).setCell ⟨g, 3, none⟩ v3).setCell ⟨g, 4, none⟩ v4).setCell ⟨g, 5, none⟩ v5).setCell ⟨g, 6, none⟩ v6).setCell ⟨g, 7, none⟩ v7).setCell ⟨g, 8, none⟩ v8).heap[g]? = some (.cells #[v0, v1, v2, v3, v4, v5, v6, v7, v8, c9, c10, c11, c12] T fr) := heap_set_same h7 8 v8
 have h9 : ((((((((((w.setCell ⟨g, 0, none⟩ v0).setCell ⟨g, 1, none⟩ v1).setCell ⟨g, 2, none⟩ v2).setCell ⟨g, 3, none⟩ v3).setCell ⟨g, 4, none⟩ v4).setCell ⟨g, 5, none⟩ v5).setCell ⟨g, 6, none⟩ v6).setCell ⟨g, 7, none⟩ v7).setCell ⟨g, 8, none⟩ v8).setCell ⟨g, 9, none⟩ v9).heap[g]? = some (.cells #[v0, v1, v2, v3, v4, v5, v6, v7, v8, v9, c10, c11, c12] T fr) := heap_set_same h8 9 v9
 have h10 : (((((((((((w.setCell ⟨g, 0, none⟩ v0).setCell ⟨g, 1, none⟩ v1).setCell ⟨g, 2, none⟩ v2).setCell ⟨g, 3, none⟩ v3).setCell ⟨g, 4, none⟩ v4).setCell ⟨g, 5, none⟩ v5).setCell ⟨g, 6, none⟩ v6).setCell ⟨g, 7, none⟩ v7).setCell ⟨g, 8, none⟩ v8).setCell ⟨g, 9, none⟩ v9).setCell ⟨g, 10, none⟩ v10).heap[g]? = some (.cells #[v0, v1, v2, v3, v4, v5, v6, v7, v8, v9, v10, c11, c12] T fr) := heap_set_same h9 10 v10
 have h11 : ((((((((((((w.setCell ⟨g, 0, none⟩ v0).setCell ⟨g, 1, none⟩ v1).setCell ⟨g, 2, none⟩ v2).setCell ⟨g, 3, none⟩ v3).setCell ⟨g, 4, none⟩ v4).setCell ⟨g, 5, none⟩ v5).setCell ⟨g, 6, none⟩ v6).setCell ⟨g, 7, none⟩ v7).setCell ⟨g, 8, none⟩ v8).setCell ⟨g, 9, none⟩ v9).setCell ⟨g, 10, none⟩ v10).setCell ⟨g, 11, none⟩ v11).heap[g]? = some (.cells #[v0, v1, v2, v3, v4, v5, v6, v7, v8, v9, v10, v11, c12] T fr) := heap_set_same h10 11 v11
 have h12 : (((((((((((((w.setCell ⟨g, 0, none⟩ v0).setCell ⟨g, 1, none⟩ v1).setCell ⟨g, 2, none⟩ v2).setCell ⟨g, 3, none⟩ v3).setCell ⟨g, 4, none⟩ v4).setCell ⟨g, 5, none⟩ v5).setCell ⟨g, 6, none⟩ v6).setCell ⟨g, 7, none⟩ v7).setCell ⟨g, 8, none⟩ v8).setCell ⟨g, 9, none⟩ v9).setCell ⟨g, 10, none⟩ v10).setCell ⟨g, 11, none⟩ v11).setCell ⟨g, 12, none⟩ v12).heap[g]? = some (.cells #[v0, v1, v2, v3, v4, v5, v6, v7, v8, v9, v10, v11, v12] T fr) := heap_set_same h11 12 v12
 exact h12
theorem info_rec13 : (Tryd.prog.info? 27).map (·.size) = some 13 := by kernel_rfl
end Go.Proofs.YtpdkcpjofofkoaaDoor
namespace Go.Proofs.YtpdkcpjofofkoaaDoor
open Go.RowKit
set_option linter.unusedVariables false

def keyL (x : Nat) : ByteArray := match x with
 | 0 => ⟨#[97]⟩ | 1 => ⟨#[98]⟩ | 2 => ⟨#[99]⟩ | 3 => ⟨#[100]⟩ | 4 => ⟨#[101]⟩ | 5 => ⟨#[102]⟩ | 6 => ⟨#[103]⟩ | 7 => ⟨#[104]⟩ | 8 => ⟨#[105]⟩ | 9 => ⟨#[106]⟩ | 10 => ⟨#[107]⟩
 | _ => ⟨#[108, 111, 110, 103, 45, 107, 101, 121, 45, 111, 102, 45, 49, 54, 45, 98]⟩
theorem keyL_ok : ∀ x, x < 12 → (1 ≤ (keyL x).size ∧ (keyL x).size ≤ 16) ∧ ∀ c ∈ nums (keyL x), 33 ≤ c ∧ c ≤ 126 := by
 intro x hx
 match x, hx with
 | 0, _ => decide
 | 1, _ => decide
 | 2, _ => decide
 | 3, _ => decide
 | 4, _ => decide
 | 5, _ => decide
 | 6, _ => decide
 | 7, _ => decide
 | 8, _ => decide
 | 9, _ => decide
 | 10, _ => decide
 | 11, _ => decide
set_option maxHeartbeats 2000000 in
theorem key_any (x : Nat) (hx : x < 12) (w : World) : Calls Tryd.prog 18 #[.int .i64 (x : Nat)] w fun e w' => ∃ s, e = .returned (.string s) ∧ ((1 ≤ s.size ∧ s.size ≤ 16) ∧ ∀ c ∈ nums s, 33 ≤ c ∧ c ≤ 126) ∧ Up Nul w w' := by
 match x, hx with
 | 0, _ =>
  have HK := hid (keyL_ok 0 (by omega))
  have HU : Hid (∀ o, Up Nul w (w.alloc o)) := fun o => (Up.refl Nul w).alloc o
  go_enter Tryd.func18, Tryd.ntmps18
  go_wp2
  go_ret
  exact ⟨keyL 0, rfl, HK.out, HU.out _⟩
 | 1, _ =>
  have HK := hid (keyL_ok 1 (by omega))
  have HU : Hid (∀ o, Up Nul w (w.alloc o)) := fun o => (Up.refl Nul w).alloc o
  go_enter Tryd.func18, Tryd.ntmps18
  go_wp2
  go_ret
  exact ⟨keyL 1, rfl, HK.out, HU.out _⟩
 | 2, _ =>
  have HK := hid (keyL_ok 2 (by omega))
  have HU : Hid (∀ o, Up Nul w (w.alloc o)) := fun o => (Up.refl Nul w).alloc o
  go_enter Tryd.func18, Tryd.ntmps18
  go_wp2
  go_ret
  exact ⟨keyL 2, rfl, HK.out, HU.out _⟩
 | 3, _ =>
  have HK := hid (keyL_ok 3 (by omega))
  have HU : Hid (∀ o, Up Nul w (w.alloc o)) := fun o => (Up.refl Nul w).alloc o
  go_enter Tryd.func18, Tryd.ntmps18
  go_wp2
  go_ret
  exact ⟨keyL 3, rfl, HK.out, HU.out _⟩
 | 4, _ =>
  have HK := hid (keyL_ok 4 (by omega))
  have HU : Hid (∀ o, Up Nul w (w.alloc o)) := fun o => (Up.refl Nul w).alloc o
  go_enter Tryd.func18, Tryd.ntmps18
  go_wp2
  go_ret
  exact ⟨keyL 4, rfl, HK.out, HU.out _⟩
 | 5, _ =>
  have HK := hid (keyL_ok 5 (by omega))
  have HU : Hid (∀ o, Up Nul w (w.alloc o)) := fun o => (Up.refl Nul w).alloc o
  go_enter Tryd.func18, Tryd.ntmps18
  go_wp2
  go_ret
  exact ⟨keyL 5, rfl, HK.out, HU.out _⟩
 | 6, _ =>
  have HK := hid (keyL_ok 6 (by omega))
  have HU : Hid (∀ o, Up Nul w (w.alloc o)) := fun o => (Up.refl Nul w).alloc o
  go_enter Tryd.func18, Tryd.ntmps18
  go_wp2
  go_ret
  exact ⟨keyL 6, rfl, HK.out, HU.out _⟩
 | 7, _ =>
  have HK := hid (keyL_ok 7 (by omega))
  have HU : Hid (∀ o, Up Nul w (w.alloc o)) := fun o => (Up.refl Nul w).alloc o
  go_enter Tryd.func18, Tryd.ntmps18
  go_wp2
  go_ret
  exact ⟨keyL 7, rfl, HK.out, HU.out _⟩
 | 8, _ =>
  have HK := hid (keyL_ok 8 (by omega))
  have HU : Hid (∀ o, Up Nul w (w.alloc o)) := fun o => (Up.refl Nul w).alloc o
  go_enter Tryd.func18, Tryd.ntmps18
  go_wp2
  go_ret
  exact ⟨keyL 8, rfl, HK.out, HU.out _⟩
 | 9, _ =>
  have HK := hid (keyL_ok 9 (by omega))
  have HU : Hid (∀ o, Up Nul w (w.alloc o)) := fun o => (Up.refl Nul w).alloc o
  go_enter Tryd.func18, Tryd.ntmps18
  go_wp2
  go_ret
  exact ⟨keyL 9, rfl, HK.out, HU.out _⟩
 | 10, _ =>
  have HK := hid (keyL_ok 10 (by omega))
  have HU : Hid (∀ o, Up Nul w (w.alloc o)) := fun o => (Up.refl Nul w).alloc o
  go_enter Tryd.func18, Tryd.ntmps18
  go_wp2
  go_ret
  exact ⟨keyL 10, rfl, HK.out, HU.out _⟩
 | 11, _ =>
  have HK := hid (keyL_ok 11 (by omega))
  have HU : Hid (∀ o, Up Nul w (w.alloc o)) := fun o => (Up.refl Nul w).alloc o
  go_enter Tryd.func18, Tryd.ntmps18
  go_wp2
  go_ret
  exact ⟨keyL 11, rfl, HK.out, HU.out _⟩
end Go.Proofs.YtpdkcpjofofkoaaDoor
namespace Go.Proofs.YtpdkcpjofofkoaaDoor
open Go.RowKit
set_option linter.unusedVariables false

namespace RcL
theorem i64_mask (m : Nat) (hm : m < 63) (n : Int) : ∃ k : Nat, bits .and .i64 n ((2 ^ m - 1 : Nat) : Int) = (k : Int) ∧ k < 2 ^ m := by
 have hp : 2 ^ m ≤ 2 ^ 62 := Nat.pow_le_pow_right (by omega) (by omega)
 have key : (BitVec.ofInt 64 n &&& BitVec.ofInt 64 ((2 ^ m - 1 : Nat) : Int)).toNat = (n % ((2 ^ 64 : Nat) : Int)).toNat % 2 ^ m := by
  have e : (BitVec.ofInt 64 ((2 ^ m - 1 : Nat) : Int)).toNat = 2 ^ m - 1 := by
   rw [BitVec.toNat_ofInt]
   have : (((2 ^ m - 1 : Nat) : Int) % ((2 ^ 64 : Nat) : Int)) = ((2 ^ m - 1 : Nat) : Int) := Int.emod_eq_of_lt (by omega) (by omega)
   rw [this]
   omega
  rw [BitVec.toNat_and, BitVec.toNat_ofInt, e, Nat.and_two_pow_sub_one_eq_mod]
 refine ⟨(n % ((2 ^ 64 : Nat) : Int)).toNat % 2 ^ m, ?_, Nat.mod_lt _ (Nat.two_pow_pos m)⟩
 show IntKind.i64.wrap ((BitVec.ofInt 64 n &&& BitVec.ofInt 64 ((2 ^ m - 1 : Nat) : Int)).toNat : Nat) = _
 rw [key, IntKind.wrap_i64]
 have := Nat.mod_lt (n % ((2 ^ 64 : Nat) : Int)).toNat (Nat.two_pow_pos m)
 generalize (n % ((2 ^ 64 : Nat) : Int)).toNat % 2 ^ m = x at this ⊢
 omega
theorem mask24 (n : Int) : ∃ k : Nat, bits .and .i64 n 16777215 = (k : Int) ∧ k < 16777216 := i64_mask 24 (by omega) n
theorem mask8 (n : Int) : ∃ k : Nat, bits .and .i64 n 255 = (k : Int) ∧ k < 256 := i64_mask 8 (by omega) n
theorem mask3 (n : Int) : ∃ k : Nat, bits .and .i64 n 7 = (k : Int) ∧ k < 8 := i64_mask 3 (by omega) n
theorem mask16 (n : Int) : ∃ k : Nat, bits .and .i64 n 65535 = (k : Int) ∧ k < 65536 := i64_mask 16 (by omega) n
end RcL
/-- A slice of ints that can be read, and lies elsewhere than block A. -/
def RowO (A : Nat) (w : World) (a : Option Addr) (zs : List Int) : Prop := zs = [] ∨ ∃ g o, a = some ⟨g, o, none⟩ ∧ g < w.heap.size ∧ g < A ∧ ∀ i x, zs[i]? = some x → w.cell? ⟨g, o + i, none⟩ = some (.int .i64 x)
/-- Where the law's row of numbers lies, and how many were taken: k at block A, the row's slice at block Lb. -/
structure Nx (W : World) (A Lb k : Nat) (zs : List Int) : Prop where
 at_ : W.heap[A]? = some (.cells #[.int .i64 (k : Nat)] 3 (0, 0))
 l : ∃ a c, W.heap[Lb]? = some (.cells #[.slice a zs.length c] 22 (0, 0)) ∧ RowO A W a zs
 le : k ≤ 1000
 nl : zs.length ≤ 9223372036854775807
 ne : A ≠ Lb
theorem Nx.keep {W W' : World} {A Lb k k' : Nat} {zs : List Int} {T : Nat → Prop} (h : Nx W A Lb k zs) (hk : k' ≤ 1000) (u : Up T W W') (ha : W'.heap[A]? = some (.cells #[.int .i64 (k' : Nat)] 3 (0, 0))) (hT : ∀ j, T j → A ≤ j ∧ j ≠ Lb) : Nx W' A Lb k' zs := by
 obtain ⟨h1, ⟨a, c, h2, h3⟩, h4, h5, h6⟩ := h
 have hL := (Array.getElem?_eq_some_iff.1 h2).1
 refine ⟨ha, ⟨a, c, (u.block Lb hL (fun e => (hT _ e).2 rfl)).trans h2, ?_⟩, hk, h5, h6⟩
 rcases h3 with e | ⟨g, o, e, hg, hA, hc⟩
 ·exact .inl e
 ·exact .inr ⟨g, o, e, Nat.lt_of_lt_of_le hg u.size, hA, fun i x hi => (u.cell (p := ⟨g, o + i, none⟩) hg (fun e => by have e : T g := e; have := (hT g e).1; omega)).trans (hc i x hi)⟩
theorem Nx.nxt {W W' : World} {A Lb k : Nat} {zs : List Int} (h : Nx W A Lb k zs) (u : Up Nul W W') : Nx W' A Lb k zs := h.keep h.le u ((u.block A (Array.getElem?_eq_some_iff.1 h.at_).1 id).trans h.at_) fun _ e => e.elim
set_option maxHeartbeats 1000000 in
theorem nxt_any (W : World) (A Lb k n : Nat) (zs : List Int) (h : Nx W A Lb k zs) (hn : 1 ≤ n) (hn2 : n ≤ 100000) (hk : k + 1 ≤ 1000) :
  Calls Tryd.prog 16 #[.int .i64 (n : Nat), .pointer (some ⟨A, 0, none⟩), .pointer (some ⟨Lb, 0, none⟩)] W fun e w' => ∃ x : Nat, e = .returned (.int .i64 (x : Nat)) ∧ x < n ∧ Nx w' A Lb (k + 1) zs ∧ Up (One A) W w' := by
 have x0 : W.cell? ⟨A, 0, none⟩ = some (.int .i64 (k : Nat)) := by simp [World.cell?, h.at_]
 have f0 : W.frozen? ⟨A, 0, none⟩ = false := by simp [World.frozen?, h.at_]
 obtain ⟨a, c, hL, hrow⟩ := h.l
 obtain ⟨W1, hW1⟩ : ∃ w, w = W.setCell ⟨A, 0, none⟩ (.int .i64 ((k : Int) + 1)) := ⟨_, rfl⟩
 have hU : Up (One A) W W1 := by rw [hW1]; exact (Up.refl (One A) W).put rfl 0 _
 have hA1 : W1.heap[A]? = some (.cells #[.int .i64 ((k + 1 : Nat) : Int)] 3 (0, 0)) := by rw [hW1, heap_set_same h.at_]; rfl
 have HN : Hid (Nx W1 A Lb (k + 1) zs) := h.keep hk hU hA1 fun j e => by have e : j = A := e; subst e; exact ⟨Nat.le_refl _, h.ne⟩
 have y0 : W1.cell? ⟨A, 0, none⟩ = some (.int .i64 ((k : Int) + 1)) := by simp [World.cell?, hA1]
 have hL1 := (hU.block Lb (Array.getElem?_eq_some_iff.1 hL).1 (fun e => h.ne e.symm)).trans hL
 have y1 : W1.cell? ⟨Lb, 0, none⟩ = some (.slice a zs.length c) := by simp [World.cell?, hL1]
 have HU := hid hU
 have HR : Hid (∀ t x, zs[t]? = some x → ∃ g o, a = some ⟨g, o, none⟩ ∧ W1.cell? ⟨g, o + t, none⟩ = some (.int .i64 x)) := fun t x hx => by
  obtain ⟨g, o, e, hg, hgA, hc⟩ := hrow.resolve_left (fun e => by rw [e] at hx; cases hx)
  exact ⟨g, o, e, (hU.cell (p := ⟨g, o + t, none⟩) hg (fun e => by have e : g = A := e; omega)).trans (hc t x hx)⟩
 have hnl := h.nl
 have HNN := hid (And.intro hn hn2)
 have j1 : IntKind.i64.wrap ((k : Int) + 1) = (k : Int) + 1 := IntWalk.i64_in _ (by omega)
 have e1 : ((n : Nat) : Int) ≠ 0 := by omega
 have e0 : (((n : Nat) : Int) == 0) = false := by simpa using e1
 clear hU hA1 h hL hrow hL1
 by_cases hgt : zs.length < k + 1
 ·have i1 : ((zs.length : Nat) : Int) < (k : Int) + 1 := by omega
  obtain ⟨m, hm⟩ : ∃ m : Nat, m = (k + 1) * 7 % n := ⟨_, rfl⟩
  have HM : Hid (m < n) := by show m < n; rw [hm]; exact Nat.mod_lt _ hn
  have i2 : IntKind.i64.wrap (((k : Int) + 1) * 7) = ((k : Int) + 1) * 7 := IntWalk.i64_in _ (by omega)
  have i4 : wrap64 (((k : Int) + 1) * 7) = ((k : Int) + 1) * 7 := by rw [← IntWalk.i64_left]; exact i2
  have i3 : (((k : Int) + 1) * 7).tmod (n : Int) = (m : Int) := by rw [hm, Int.tmod_eq_emod_of_nonneg (by omega)]; simp
  have i5 : (((k : Int) + 1) * 7) % (n : Int) = (m : Int) := by rw [hm]; simp
  subst hW1
  clear hm hgt hn hn2 hk HNN HR
  go_enter Tryd.func16, Tryd.ntmps16
  go_wp2_with fail
  go_ret
  exact ⟨m, rfl, HM.out, HN.out, HU.out⟩
 ·have i1 : ¬ ((zs.length : Nat) : Int) < (k : Int) + 1 := by omega
  have hkl : k < zs.length := by omega
  obtain ⟨g, o, rfl, hc⟩ := HR.out k _ (List.getElem?_eq_getElem hkl)
  obtain ⟨y, hy, hy2⟩ := RcL.mask24 zs[k]
  obtain ⟨m, hm⟩ : ∃ m : Nat, m = y % n := ⟨_, rfl⟩
  have HM : Hid (m < n) := by show m < n; rw [hm]; exact Nat.mod_lt _ hn
  generalize zs[k] = x at hc hy
  have i2 : IntKind.i64.wrap ((k : Int) + 1 - 1) = (k : Int) := by rw [show (k : Int) + 1 - 1 = (k : Int) by omega]; exact IntWalk.i64_in _ (by omega)
  have i4 : wrap64 ((k : Int) + 1 - 1) = (k : Int) := by rw [← IntWalk.i64_left]; exact i2
  have i7 : (k : Int) + 1 - 1 = (k : Int) := by omega
  have i3 : ((y : Nat) : Int).tmod (n : Int) = (m : Int) := by rw [hm, Int.tmod_eq_emod_of_nonneg (by omega)]; simp
  have i5 : ((y : Nat) : Int) % (n : Int) = (m : Int) := by rw [hm]; simp
  have i6 : (k : Int) < ((zs.length : Nat) : Int) := by omega
  have i8 : (0 : Int) ≤ (k : Int) := by omega
  subst hW1
  clear hm hgt hn hn2 hk HNN HR hy2 hkl
  go_enter Tryd.func16, Tryd.ntmps16
  go_wp2_with fail
  go_ret
  exact ⟨m, rfl, HM.out, HN.out, HU.out⟩
end Go.Proofs.YtpdkcpjofofkoaaDoor
namespace Go.Proofs.YtpdkcpjofofkoaaDoor
open Go.RowKit
set_option linter.unusedVariables false

/-- 'next' of any bound. -/
theorem nxt_int (W : World) (A Lb k : Nat) (n : Int) (zs : List Int) (h : Nx W A Lb k zs) (hn : 1 ≤ n) (hn2 : n ≤ 100000) (hk : k + 1 ≤ 1000) :
  Calls Tryd.prog 16 #[.int .i64 n, .pointer (some ⟨A, 0, none⟩), .pointer (some ⟨Lb, 0, none⟩)] W fun e w' => ∃ x : Nat, e = .returned (.int .i64 (x : Nat)) ∧ (x : Int) < n ∧ Nx w' A Lb (k + 1) zs ∧ Up (One A) W w' := by
 obtain ⟨m, rfl⟩ := Int.eq_ofNat_of_zero_le (show 0 ≤ n by omega)
 refine (nxt_any W A Lb k m zs h (by omega) (by omega) hk).mono ?_
 rintro e w' ⟨x, rfl, hx, hnx, u⟩
 exact ⟨x, rfl, by omega, hnx, u⟩
abbrev nextV (A Lb : Nat) : Value := .func (.func 16) #[] #[.pointer (some ⟨A, 0, none⟩), .pointer (some ⟨Lb, 0, none⟩)]
abbrev rcellsL (r : Rc) (sv lv : Value) : Array Value := #[.int .i64 r.kind, .string r.key, .int .i64 r.n, .int .i64 r.sid, sv, .int .i64 r.colour, lv, .int .i64 r.t.hot, .int .i64 r.t.warm, .int .i64 r.t.gap, .int .i64 r.t.add, .int .i64 r.t.top, .int .i64 r.t.half]
/-- While the record is made: its cells C at block p; a row of three numbers G. -/
structure Rs (w0 : World) (W : World) (A Lb F p k : Nat) (zs : List Int) (C : Array Value) (G : Option (Nat × Array Value)) : Prop where
 nx : Nx W A Lb k zs
 cl : W.heap[F]? = some (.cells #[nextV A Lb] 46 (0, 0))
 pc : W.heap[p]? = some (.cells C 27 (0, 0))
 gc : ∀ g cs, G = some (g, cs) → W.heap[g]? = some (.cells cs 3 (0, 0)) ∧ g ≠ A ∧ g ≠ p ∧ w0.heap.size ≤ g
 up : Up Nul w0 W
 a : w0.heap.size ≤ A ∧ w0.heap.size ≤ p
 ne : A ≠ F ∧ A ≠ p ∧ F ≠ p ∧ p ≠ Lb ∧ A ≤ p
section
variable {w0 W W' : World} {A Lb F p k k' : Nat} {zs : List Int} {C : Array Value} {G : Option (Nat × Array Value)}
theorem Rs.clc (h : Rs w0 W A Lb F p k zs C G) : W.cell? ⟨F, 0, none⟩ = some (nextV A Lb) := by simp [World.cell?, h.cl]
theorem Rs.cell (h : Rs w0 W A Lb F p k zs C G) {i : Nat} {v : Value} (hv : C[i]? = some v) : W.cell? ⟨p, i, none⟩ = some v := by simp [World.cell?, h.pc, hv]
theorem Rs.froz (h : Rs w0 W A Lb F p k zs C G) (i : Nat) : W.frozen? ⟨p, i, none⟩ = false := by simp [World.frozen?, h.pc]
theorem Rs.nxt (h : Rs w0 W A Lb F p k zs C G) (u : Up Nul W W') : Rs w0 W' A Lb F p k zs C G :=
 ⟨h.nx.nxt u, (u.block F (Array.getElem?_eq_some_iff.1 h.cl).1 id).trans h.cl, (u.block p (Array.getElem?_eq_some_iff.1 h.pc).1 id).trans h.pc, fun g cs e => ⟨(u.block g (Array.getElem?_eq_some_iff.1 (h.gc g cs e).1).1 id).trans (h.gc g cs e).1, (h.gc g cs e).2⟩, h.up.trans u, h.a, h.ne⟩
theorem Rs.call (h : Rs w0 W A Lb F p k zs C G) (n : Nx W' A Lb k' zs) (u : Up (One A) W W') : Rs w0 W' A Lb F p k' zs C G :=
 ⟨n, (u.block F (Array.getElem?_eq_some_iff.1 h.cl).1 fun e => h.ne.1 e.symm).trans h.cl, (u.block p (Array.getElem?_eq_some_iff.1 h.pc).1 fun e => h.ne.2.1 e.symm).trans h.pc,
  fun g cs e => ⟨(u.block g (Array.getElem?_eq_some_iff.1 (h.gc g cs e).1).1 fun e2 => (h.gc g cs e).2.1 e2).trans (h.gc g cs e).1, (h.gc g cs e).2⟩,
  ⟨u.os.trans h.up.os, u.tape.trans h.up.tape, u.output.trans h.up.output, Nat.le_trans h.up.size u.size, fun j hj _ => (u.block j (Nat.lt_of_lt_of_le hj h.up.size) (fun e => by have e : j = A := e; have := h.a.1; omega)).trans (h.up.block j hj id)⟩, h.a, h.ne⟩
theorem Rs.set (h : Rs w0 W A Lb F p k zs C G) (i : Nat) (v : Value) : Rs w0 (W.setCell ⟨p, i, none⟩ v) A Lb F p k zs (C.setIfInBounds i v) G := by
 have u : Up (One p) W (W.setCell ⟨p, i, none⟩ v) := (Up.refl (One p) W).put rfl i v
 exact ⟨h.nx.keep h.nx.le u ((u.block A (Array.getElem?_eq_some_iff.1 h.nx.at_).1 h.ne.2.1).trans h.nx.at_) (fun j e => by have e : j = p := e; subst e; exact ⟨h.ne.2.2.2.2, h.ne.2.2.2.1⟩),
  (u.block F (Array.getElem?_eq_some_iff.1 h.cl).1 h.ne.2.2.1).trans h.cl, heap_set_same h.pc i v,
  fun g cs e => ⟨(u.block g (Array.getElem?_eq_some_iff.1 (h.gc g cs e).1).1 (h.gc g cs e).2.2.1).trans (h.gc g cs e).1, (h.gc g cs e).2⟩, h.up.setCell (.inl h.a.2) v, h.a, h.ne⟩
/-- A row of three numbers, made. -/
theorem Rs.row3 (h : Rs w0 W A Lb F p k zs C none) (cs : Array Value) : Rs w0 (W.alloc (.cells cs 3)) A Lb F p k zs C (some (W.heap.size, cs)) := by
 have h2 := h.nxt ((Up.refl Nul W).alloc (.cells cs 3))
 refine ⟨h2.nx, h2.cl, h2.pc, fun g cs' e => ?_, h2.up, h2.a, h2.ne⟩
 cases e
 refine ⟨heap_alloc_new _ _, ?_, ?_, h.up.size⟩
 ·have := (Array.getElem?_eq_some_iff.1 h.nx.at_).1; omega
 ·have := (Array.getElem?_eq_some_iff.1 h.pc).1; omega
end
/-- A record that may be, its L Locs to come. -/
structure OkP (r : Rc) (L : Nat) : Prop where
 k1 : 1 ≤ kn r
 k8 : kn r ≤ 8
 kk : r.kind = (kn r : Int)
 key : sh (kn r) 0 ≤ (r.key.size : Nat) ∧ ((r.key.size : Nat) : Int) ≤ sh (kn r) 1
 pl : ∀ c ∈ nums r.key, 33 ≤ c ∧ c ≤ 126
 n : sh (kn r) 2 ≤ r.n ∧ r.n ≤ sh (kn r) 3
 sid : sh (kn r) 4 ≤ r.sid ∧ r.sid ≤ sh (kn r) 5
 co : sh (kn r) 6 ≤ r.colour ∧ r.colour ≤ sh (kn r) 7
 ns : ((r.sids.length : Nat) : Int) = sh (kn r) 8
 sids : ∀ x ∈ r.sids, sh (kn r) 9 ≤ x ∧ x ≤ sh (kn r) 10
 nl : ((L : Nat) : Int) = sh (kn r) 11 + sh (kn r) 12 * ((nz r.sids : Nat) : Int)
 t : ∀ x ∈ r.t.l, sh (kn r) 13 ≤ x ∧ x ≤ sh (kn r) 14
 l6 : L ≤ 6
theorem OkP.done {r : Rc} {L : Nat} (h : OkP r L) (ls : List Lo) (hl : ls.length = L) (hs : ∀ l ∈ ls, (0 ≤ l.d ∧ l.d ≤ 23) ∧ (0 ≤ l.s ∧ l.s ≤ 63) ∧ 1 ≤ l.i ∧ l.i ≤ 2147483647) : OkF { r with locs := ls } :=
 ⟨h.k1, h.k8, h.kk, h.key, h.pl, h.n, h.sid, h.co, h.ns, h.sids, by show ((ls.length : Nat) : Int) = _; rw [hl]; exact h.nl, hs, h.t⟩
abbrev rcells (r : Rc) (sv : Value) : Array Value := #[.int .i64 r.kind, .string r.key, .int .i64 r.n, .int .i64 r.sid, sv, .int .i64 r.colour, .slice none 0 0, .int .i64 r.t.hot, .int .i64 r.t.warm, .int .i64 r.t.gap, .int .i64 r.t.add, .int .i64 r.t.top, .int .i64 r.t.half]
/-- The Sids' slice. -/
def Svs (r : Rc) (sv : Value) (G : Option (Nat × Array Value)) : Prop := (r.sids = [] ∧ sv = .slice none 0 0) ∨ ∃ g a b c, G = some (g, #[.int .i64 a, .int .i64 b, .int .i64 c]) ∧ r.sids = [a, b, c] ∧ sv = .slice (some ⟨g, 0, none⟩) 3 3
/-- Behind the switch. -/
def Rq (w0 : World) (A Lb F p : Nat) (zs : List Int) (s7 : Value) (wx : World) : Prop := ∃ (r : Rc) (sv : Value) (L k : Nat) (G : Option (Nat × Array Value)), s7 = .int .i64 ((L : Nat) : Int) ∧ Rs w0 wx A Lb F p k zs (rcells r sv) G ∧ Svs r sv G ∧ OkP r L ∧ k ≤ 20
end Go.Proofs.YtpdkcpjofofkoaaDoor
set_option maxRecDepth 100000
namespace Go.Proofs.YtpdkcpjofofkoaaDoor
open Go.RowKit
/-- A record in a block of its own. -/
def RB (w : World) (p : Nat) (r : Rc) (sv lv : Value) : Prop := w.heap[p]? = some (.cells (rcellsL r sv lv) 27 (0, 0))
section
variable {w w' : World} {p : Nat} {r : Rc} {sv lv : Value}
theorem RB.lt (h : RB w p r sv lv) : p < w.heap.size := (Array.getElem?_eq_some_iff.1 h).1
theorem RB.up {S : Nat → Prop} (h : RB w p r sv lv) (u : Up S w w') (hs : ¬ S p) : RB w' p r sv lv := (u.block p h.lt hs).trans h
theorem RB.nxt (h : RB w p r sv lv) (u : Up Nul w w') : RB w' p r sv lv := h.up u id
theorem RB.new (w : World) (r : Rc) (sv lv : Value) : RB (w.alloc (.cells (rcellsL r sv lv) 27)) w.heap.size r sv lv := heap_alloc_new _ _
theorem RB.cells (h : RB w p r sv lv) : w.cell? ⟨p, 0, none⟩ = some (.int .i64 r.kind) ∧ w.cell? ⟨p, 1, none⟩ = some (.string r.key) ∧ w.cell? ⟨p, 2, none⟩ = some (.int .i64 r.n) ∧ w.cell? ⟨p, 3, none⟩ = some (.int .i64 r.sid) ∧ w.cell? ⟨p, 4, none⟩ = some (sv) ∧ w.cell? ⟨p, 5, none⟩ = some (.int .i64 r.colour) ∧ w.cell? ⟨p, 6, none⟩ = some (lv) ∧ w.cell? ⟨p, 7, none⟩ = some (.int .i64 r.t.hot) ∧ w.cell? ⟨p, 8, none⟩ = some (.int .i64 r.t.warm) ∧ w.cell? ⟨p, 9, none⟩ = some (.int .i64 r.t.gap) ∧ w.cell? ⟨p, 10, none⟩ = some (.int .i64 r.t.add) ∧ w.cell? ⟨p, 11, none⟩ = some (.int .i64 r.t.top) ∧ w.cell? ⟨p, 12, none⟩ = some (.int .i64 r.t.half) := by
 have a : w.heap[p]? = _ := h
 simp only [World.cell?, a]
 exact ⟨rfl, rfl, rfl, rfl, rfl, rfl, rfl, rfl, rfl, rfl, rfl, rfl, rfl⟩
theorem RB.froz (h : RB w p r sv lv) (i : Nat) : w.frozen? ⟨p, i, none⟩ = false := by
 have a : w.heap[p]? = _ := h
 simp [World.frozen?, a]
theorem RB.set (h : RB w p r sv lv) (i : Nat) (v : Value) {r' : Rc} {sv' lv' : Value} (e : (rcellsL r sv lv).setIfInBounds i v = rcellsL r' sv' lv') : RB (w.setCell ⟨p, i, none⟩ v) p r' sv' lv' := by
 have := heap_set_same h i v
 rw [e] at this
 exact this
end
end Go.Proofs.YtpdkcpjofofkoaaDoor
namespace Go.Proofs.YtpdkcpjofofkoaaDoor
open Go.RowKit
theorem okR_no {r : Rc} (h : OkF r → False) : okR r = false := by
 cases e : okR r with
 | false => rfl
 | true => exact (h (okR_iff.1 e)).elim
theorem nums_append (a b : ByteArray) : nums (a ++ b) = nums a ++ nums b := by
 unfold nums
 rw [ByteArray.data_append, Array.toList_append, List.map_append]
section
variable {r : Rc} {y : Int}
theorem bad0 (F : OkF r) (hy : 1 ≤ y) : okR (⟨(8 + y), r.key, r.n, r.sid, r.sids, r.colour, r.locs, r.t⟩ : Rc) = false := okR_no fun G => by
 have F0 := F
 have hy0 := hy
 clear F0 hy0
 have h8 := G.k8
 have hk := G.kk
 simp only [kn] at h8 hk
 omega
theorem bad1 (F : OkF r) (hy : 1 ≤ y) : okR (⟨r.kind, r.key, r.n, r.sid, r.sids, (2 + y), r.locs, r.t⟩ : Rc) = false := okR_no fun G => by
 have F0 := F
 have hy0 := hy
 clear F0 hy0
 have b := sh_bounds (kn (⟨r.kind, r.key, r.n, r.sid, r.sids, (2 + y), r.locs, r.t⟩ : Rc)) (by have := G.k8; omega)
 have h := G.co
 simp only at h
 omega
theorem bad2 (F : OkF r) (hy : 1 ≤ y) : okR (⟨r.kind, (r.key ++ ⟨#[127]⟩), r.n, r.sid, r.sids, r.colour, r.locs, r.t⟩ : Rc) = false := okR_no fun G => by
 have F0 := F
 have hy0 := hy
 clear F0 hy0
 have h := (G.pl 127 (by show 127 ∈ nums _; rw [nums_append]; exact List.mem_append_right _ (by decide))).2
 omega
theorem bad3 (F : OkF r) (hy : 1 ≤ y) : okR (⟨r.kind, r.key, (64 + y), r.sid, r.sids, r.colour, r.locs, r.t⟩ : Rc) = false := okR_no fun G => by
 have F0 := F
 have hy0 := hy
 clear F0 hy0
 have b := sh_bounds (kn (⟨r.kind, r.key, (64 + y), r.sid, r.sids, r.colour, r.locs, r.t⟩ : Rc)) (by have := G.k8; omega)
 have h := G.n
 simp only at h
 omega
theorem bad4 (F : OkF r) (hy : 1 ≤ y) : okR (⟨r.kind, r.key, r.n, (-y), r.sids, r.colour, r.locs, r.t⟩ : Rc) = false := okR_no fun G => by
 have F0 := F
 have hy0 := hy
 clear F0 hy0
 have b := sh_bounds (kn (⟨r.kind, r.key, r.n, (-y), r.sids, r.colour, r.locs, r.t⟩ : Rc)) (by have := G.k8; omega)
 have h := G.sid
 have b4 : 0 ≤ sh (kn (⟨r.kind, r.key, r.n, (-y), r.sids, r.colour, r.locs, r.t⟩ : Rc)) 4 := by
  have : ∀ k, k < 9 → 0 ≤ sh k 4 := by decide
  exact this _ (by have := G.k8; omega)
 simp only at h
 omega
theorem bad5 (F : OkF r) (hy : 1 ≤ y) : okR (⟨r.kind, r.key, r.n, r.sid, (r.sids ++ [1]), r.colour, r.locs, r.t⟩ : Rc) = false := okR_no fun G => by
 have F0 := F
 have hy0 := hy
 clear F0 hy0
 have h1 : ((r.sids.length : Nat) : Int) = sh (kn r) 8 := F.ns
 have h2 : (((r.sids ++ [1]).length : Nat) : Int) = sh (kn r) 8 := G.ns
 rw [List.length_append] at h2
 simp only [List.length_cons, List.length_nil] at h2
 omega
theorem bad6 (F : OkF r) (hy : 1 ≤ y) : okR (⟨r.kind, r.key, r.n, r.sid, r.sids, r.colour, (r.locs ++ [(⟨0, 0, 1⟩ : Lo)]), r.t⟩ : Rc) = false := okR_no fun G => by
 have F0 := F
 have hy0 := hy
 clear F0 hy0
 have h1 : ((r.locs.length : Nat) : Int) = sh (kn r) 11 + sh (kn r) 12 * ((nz r.sids : Nat) : Int) := F.nl
 have h2 : (((r.locs ++ [(⟨0, 0, 1⟩ : Lo)]).length : Nat) : Int) = sh (kn r) 11 + sh (kn r) 12 * ((nz r.sids : Nat) : Int) := G.nl
 rw [List.length_append] at h2
 simp only [List.length_cons, List.length_nil] at h2
 omega
theorem bad7 (F : OkF r) (hy : 1 ≤ y) : okR (⟨r.kind, r.key, r.n, r.sid, r.sids, r.colour, r.locs, (⟨r.t.hot, r.t.warm, -y, r.t.add, r.t.top, r.t.half⟩ : Tb)⟩ : Rc) = false := okR_no fun G => by
 have F0 := F
 have hy0 := hy
 clear F0 hy0
 have h : sh (kn r) 13 ≤ -y := (G.t (-y) (by simp [Tb.l])).1
 have b4 : 0 ≤ sh (kn r) 13 := by
  have : ∀ k, k < 9 → 0 ≤ sh k 13 := by decide
  exact this _ (by have := F.k8; omega)
 omega
end
end Go.Proofs.YtpdkcpjofofkoaaDoor
set_option maxRecDepth 100000
namespace Go.Proofs.YtpdkcpjofofkoaaDoor
open Go.RowKit
set_option linter.unusedVariables false

theorem okF1 {r : Rc} (hk : r.kind = 1) : OkF r ↔ (1 ≤ ((r.key.size : Nat) : Int) ∧ ((r.key.size : Nat) : Int) ≤ 16) ∧ (∀ c ∈ nums r.key, 33 ≤ c ∧ c ≤ 126) ∧ (0 ≤ r.n ∧ r.n ≤ 64) ∧ (1 ≤ r.sid ∧ r.sid ≤ 2147483647) ∧ (0 ≤ r.colour ∧ r.colour ≤ 0) ∧ ((r.sids.length : Nat) : Int) = 0 ∧ (∀ x ∈ r.sids, 0 ≤ x ∧ x ≤ 0) ∧ ((r.locs.length : Nat) : Int) = 3 + 0 * ((nz r.sids : Nat) : Int) ∧ (∀ l ∈ r.locs, (0 ≤ l.d ∧ l.d ≤ 23) ∧ (0 ≤ l.s ∧ l.s ≤ 63) ∧ 1 ≤ l.i ∧ l.i ≤ 2147483647) ∧ (0 ≤ r.t.hot ∧ r.t.hot ≤ 0) ∧ (0 ≤ r.t.warm ∧ r.t.warm ≤ 0) ∧ (0 ≤ r.t.gap ∧ r.t.gap ≤ 0) ∧ (0 ≤ r.t.add ∧ r.t.add ≤ 0) ∧ (0 ≤ r.t.top ∧ r.t.top ≤ 0) ∧ (0 ≤ r.t.half ∧ r.t.half ≤ 0) := by
 have e : kn r = 1 := by simp [kn, hk]
 constructor
 ·intro F
  obtain ⟨_, _, _, h1, h2, h3, h4, h5, h6, h7, h8, h9, h10⟩ := F
  rw [e] at h1 h3 h4 h5 h6 h7 h8 h10
  exact ⟨h1, h2, h3, h4, h5, h6, h7, h8, h9, h10 _ (by simp [Tb.l]), h10 _ (by simp [Tb.l]), h10 _ (by simp [Tb.l]), h10 _ (by simp [Tb.l]), h10 _ (by simp [Tb.l]), h10 _ (by simp [Tb.l])⟩
 ·rintro ⟨h1, h2, h3, h4, h5, h6, h7, h8, h9, t0, t1, t2, t3, t4, t5⟩
  refine ⟨by rw [e]; decide, by rw [e]; decide, by rw [e, hk]; rfl, ?_, h2, ?_, ?_, ?_, ?_, ?_, ?_, h9, ?_⟩ <;> rw [e]
  ·exact h1
  ·exact h3
  ·exact h4
  ·exact h5
  ·exact h6
  ·exact h7
  ·exact h8
  ·intro x hx
   have hx : x = r.t.hot ∨ x = r.t.warm ∨ x = r.t.gap ∨ x = r.t.add ∨ x = r.t.top ∨ x = r.t.half := by simpa [Tb.l] using hx
   rcases hx with rfl | rfl | rfl | rfl | rfl | rfl <;> assumption
theorem okF2 {r : Rc} (hk : r.kind = 2) : OkF r ↔ (1 ≤ ((r.key.size : Nat) : Int) ∧ ((r.key.size : Nat) : Int) ≤ 16) ∧ (∀ c ∈ nums r.key, 33 ≤ c ∧ c ≤ 126) ∧ (0 ≤ r.n ∧ r.n ≤ 0) ∧ (0 ≤ r.sid ∧ r.sid ≤ 0) ∧ (0 ≤ r.colour ∧ r.colour ≤ 0) ∧ ((r.sids.length : Nat) : Int) = 0 ∧ (∀ x ∈ r.sids, 0 ≤ x ∧ x ≤ 0) ∧ ((r.locs.length : Nat) : Int) = 0 + 0 * ((nz r.sids : Nat) : Int) ∧ (∀ l ∈ r.locs, (0 ≤ l.d ∧ l.d ≤ 23) ∧ (0 ≤ l.s ∧ l.s ≤ 63) ∧ 1 ≤ l.i ∧ l.i ≤ 2147483647) ∧ (0 ≤ r.t.hot ∧ r.t.hot ≤ 0) ∧ (0 ≤ r.t.warm ∧ r.t.warm ≤ 0) ∧ (0 ≤ r.t.gap ∧ r.t.gap ≤ 0) ∧ (0 ≤ r.t.add ∧ r.t.add ≤ 0) ∧ (0 ≤ r.t.top ∧ r.t.top ≤ 0) ∧ (0 ≤ r.t.half ∧ r.t.half ≤ 0) := by
 have e : kn r = 2 := by simp [kn, hk]
 constructor
 ·intro F
  obtain ⟨_, _, _, h1, h2, h3, h4, h5, h6, h7, h8, h9, h10⟩ := F
  rw [e] at h1 h3 h4 h5 h6 h7 h8 h10
  exact ⟨h1, h2, h3, h4, h5, h6, h7, h8, h9, h10 _ (by simp [Tb.l]), h10 _ (by simp [Tb.l]), h10 _ (by simp [Tb.l]), h10 _ (by simp [Tb.l]), h10 _ (by simp [Tb.l]), h10 _ (by simp [Tb.l])⟩
 ·rintro ⟨h1, h2, h3, h4, h5, h6, h7, h8, h9, t0, t1, t2, t3, t4, t5⟩
  refine ⟨by rw [e]; decide, by rw [e]; decide, by rw [e, hk]; rfl, ?_, h2, ?_, ?_, ?_, ?_, ?_, ?_, h9, ?_⟩ <;> rw [e]
  ·exact h1
  ·exact h3
  ·exact h4
  ·exact h5
  ·exact h6
  ·exact h7
  ·exact h8
  ·intro x hx
   have hx : x = r.t.hot ∨ x = r.t.warm ∨ x = r.t.gap ∨ x = r.t.add ∨ x = r.t.top ∨ x = r.t.half := by simpa [Tb.l] using hx
   rcases hx with rfl | rfl | rfl | rfl | rfl | rfl <;> assumption
theorem okF3 {r : Rc} (hk : r.kind = 3) : OkF r ↔ (1 ≤ ((r.key.size : Nat) : Int) ∧ ((r.key.size : Nat) : Int) ≤ 16) ∧ (∀ c ∈ nums r.key, 33 ≤ c ∧ c ≤ 126) ∧ (0 ≤ r.n ∧ r.n ≤ 0) ∧ (1 ≤ r.sid ∧ r.sid ≤ 2147483647) ∧ (0 ≤ r.colour ∧ r.colour ≤ 2) ∧ ((r.sids.length : Nat) : Int) = 0 ∧ (∀ x ∈ r.sids, 0 ≤ x ∧ x ≤ 0) ∧ ((r.locs.length : Nat) : Int) = 6 + 0 * ((nz r.sids : Nat) : Int) ∧ (∀ l ∈ r.locs, (0 ≤ l.d ∧ l.d ≤ 23) ∧ (0 ≤ l.s ∧ l.s ≤ 63) ∧ 1 ≤ l.i ∧ l.i ≤ 2147483647) ∧ (0 ≤ r.t.hot ∧ r.t.hot ≤ 0) ∧ (0 ≤ r.t.warm ∧ r.t.warm ≤ 0) ∧ (0 ≤ r.t.gap ∧ r.t.gap ≤ 0) ∧ (0 ≤ r.t.add ∧ r.t.add ≤ 0) ∧ (0 ≤ r.t.top ∧ r.t.top ≤ 0) ∧ (0 ≤ r.t.half ∧ r.t.half ≤ 0) := by
 have e : kn r = 3 := by simp [kn, hk]
 constructor
 ·intro F
  obtain ⟨_, _, _, h1, h2, h3, h4, h5, h6, h7, h8, h9, h10⟩ := F
  rw [e] at h1 h3 h4 h5 h6 h7 h8 h10
  exact ⟨h1, h2, h3, h4, h5, h6, h7, h8, h9, h10 _ (by simp [Tb.l]), h10 _ (by simp [Tb.l]), h10 _ (by simp [Tb.l]), h10 _ (by simp [Tb.l]), h10 _ (by simp [Tb.l]), h10 _ (by simp [Tb.l])⟩
 ·rintro ⟨h1, h2, h3, h4, h5, h6, h7, h8, h9, t0, t1, t2, t3, t4, t5⟩
  refine ⟨by rw [e]; decide, by rw [e]; decide, by rw [e, hk]; rfl, ?_, h2, ?_, ?_, ?_, ?_, ?_, ?_, h9, ?_⟩ <;> rw [e]
  ·exact h1
  ·exact h3
  ·exact h4
  ·exact h5
  ·exact h6
  ·exact h7
  ·exact h8
  ·intro x hx
   have hx : x = r.t.hot ∨ x = r.t.warm ∨ x = r.t.gap ∨ x = r.t.add ∨ x = r.t.top ∨ x = r.t.half := by simpa [Tb.l] using hx
   rcases hx with rfl | rfl | rfl | rfl | rfl | rfl <;> assumption
theorem okF4 {r : Rc} (hk : r.kind = 4) : OkF r ↔ (1 ≤ ((r.key.size : Nat) : Int) ∧ ((r.key.size : Nat) : Int) ≤ 16) ∧ (∀ c ∈ nums r.key, 33 ≤ c ∧ c ≤ 126) ∧ (0 ≤ r.n ∧ r.n ≤ 0) ∧ (1 ≤ r.sid ∧ r.sid ≤ 2147483647) ∧ (0 ≤ r.colour ∧ r.colour ≤ 0) ∧ ((r.sids.length : Nat) : Int) = 0 ∧ (∀ x ∈ r.sids, 0 ≤ x ∧ x ≤ 0) ∧ ((r.locs.length : Nat) : Int) = 3 + 0 * ((nz r.sids : Nat) : Int) ∧ (∀ l ∈ r.locs, (0 ≤ l.d ∧ l.d ≤ 23) ∧ (0 ≤ l.s ∧ l.s ≤ 63) ∧ 1 ≤ l.i ∧ l.i ≤ 2147483647) ∧ (0 ≤ r.t.hot ∧ r.t.hot ≤ 0) ∧ (0 ≤ r.t.warm ∧ r.t.warm ≤ 0) ∧ (0 ≤ r.t.gap ∧ r.t.gap ≤ 0) ∧ (0 ≤ r.t.add ∧ r.t.add ≤ 0) ∧ (0 ≤ r.t.top ∧ r.t.top ≤ 0) ∧ (0 ≤ r.t.half ∧ r.t.half ≤ 0) := by
 have e : kn r = 4 := by simp [kn, hk]
 constructor
 ·intro F
  obtain ⟨_, _, _, h1, h2, h3, h4, h5, h6, h7, h8, h9, h10⟩ := F
  rw [e] at h1 h3 h4 h5 h6 h7 h8 h10
  exact ⟨h1, h2, h3, h4, h5, h6, h7, h8, h9, h10 _ (by simp [Tb.l]), h10 _ (by simp [Tb.l]), h10 _ (by simp [Tb.l]), h10 _ (by simp [Tb.l]), h10 _ (by simp [Tb.l]), h10 _ (by simp [Tb.l])⟩
 ·rintro ⟨h1, h2, h3, h4, h5, h6, h7, h8, h9, t0, t1, t2, t3, t4, t5⟩
  refine ⟨by rw [e]; decide, by rw [e]; decide, by rw [e, hk]; rfl, ?_, h2, ?_, ?_, ?_, ?_, ?_, ?_, h9, ?_⟩ <;> rw [e]
  ·exact h1
  ·exact h3
  ·exact h4
  ·exact h5
  ·exact h6
  ·exact h7
  ·exact h8
  ·intro x hx
   have hx : x = r.t.hot ∨ x = r.t.warm ∨ x = r.t.gap ∨ x = r.t.add ∨ x = r.t.top ∨ x = r.t.half := by simpa [Tb.l] using hx
   rcases hx with rfl | rfl | rfl | rfl | rfl | rfl <;> assumption
theorem okF5 {r : Rc} (hk : r.kind = 5) : OkF r ↔ (0 ≤ ((r.key.size : Nat) : Int) ∧ ((r.key.size : Nat) : Int) ≤ 0) ∧ (∀ c ∈ nums r.key, 33 ≤ c ∧ c ≤ 126) ∧ (0 ≤ r.n ∧ r.n ≤ 0) ∧ (1 ≤ r.sid ∧ r.sid ≤ 2147483647) ∧ (0 ≤ r.colour ∧ r.colour ≤ 0) ∧ ((r.sids.length : Nat) : Int) = 3 ∧ (∀ x ∈ r.sids, 1 ≤ x ∧ x ≤ 2147483647) ∧ ((r.locs.length : Nat) : Int) = 4 + 0 * ((nz r.sids : Nat) : Int) ∧ (∀ l ∈ r.locs, (0 ≤ l.d ∧ l.d ≤ 23) ∧ (0 ≤ l.s ∧ l.s ≤ 63) ∧ 1 ≤ l.i ∧ l.i ≤ 2147483647) ∧ (0 ≤ r.t.hot ∧ r.t.hot ≤ 0) ∧ (0 ≤ r.t.warm ∧ r.t.warm ≤ 0) ∧ (0 ≤ r.t.gap ∧ r.t.gap ≤ 0) ∧ (0 ≤ r.t.add ∧ r.t.add ≤ 0) ∧ (0 ≤ r.t.top ∧ r.t.top ≤ 0) ∧ (0 ≤ r.t.half ∧ r.t.half ≤ 0) := by
 have e : kn r = 5 := by simp [kn, hk]
 constructor
 ·intro F
  obtain ⟨_, _, _, h1, h2, h3, h4, h5, h6, h7, h8, h9, h10⟩ := F
  rw [e] at h1 h3 h4 h5 h6 h7 h8 h10
  exact ⟨h1, h2, h3, h4, h5, h6, h7, h8, h9, h10 _ (by simp [Tb.l]), h10 _ (by simp [Tb.l]), h10 _ (by simp [Tb.l]), h10 _ (by simp [Tb.l]), h10 _ (by simp [Tb.l]), h10 _ (by simp [Tb.l])⟩
 ·rintro ⟨h1, h2, h3, h4, h5, h6, h7, h8, h9, t0, t1, t2, t3, t4, t5⟩
  refine ⟨by rw [e]; decide, by rw [e]; decide, by rw [e, hk]; rfl, ?_, h2, ?_, ?_, ?_, ?_, ?_, ?_, h9, ?_⟩ <;> rw [e]
  ·exact h1
  ·exact h3
  ·exact h4
  ·exact h5
  ·exact h6
  ·exact h7
  ·exact h8
  ·intro x hx
   have hx : x = r.t.hot ∨ x = r.t.warm ∨ x = r.t.gap ∨ x = r.t.add ∨ x = r.t.top ∨ x = r.t.half := by simpa [Tb.l] using hx
   rcases hx with rfl | rfl | rfl | rfl | rfl | rfl <;> assumption
theorem okF6 {r : Rc} (hk : r.kind = 6) : OkF r ↔ (0 ≤ ((r.key.size : Nat) : Int) ∧ ((r.key.size : Nat) : Int) ≤ 0) ∧ (∀ c ∈ nums r.key, 33 ≤ c ∧ c ≤ 126) ∧ (0 ≤ r.n ∧ r.n ≤ 0) ∧ (1 ≤ r.sid ∧ r.sid ≤ 2147483647) ∧ (0 ≤ r.colour ∧ r.colour ≤ 0) ∧ ((r.sids.length : Nat) : Int) = 3 ∧ (∀ x ∈ r.sids, 0 ≤ x ∧ x ≤ 2147483647) ∧ ((r.locs.length : Nat) : Int) = 0 + 2 * ((nz r.sids : Nat) : Int) ∧ (∀ l ∈ r.locs, (0 ≤ l.d ∧ l.d ≤ 23) ∧ (0 ≤ l.s ∧ l.s ≤ 63) ∧ 1 ≤ l.i ∧ l.i ≤ 2147483647) ∧ (0 ≤ r.t.hot ∧ r.t.hot ≤ 0) ∧ (0 ≤ r.t.warm ∧ r.t.warm ≤ 0) ∧ (0 ≤ r.t.gap ∧ r.t.gap ≤ 0) ∧ (0 ≤ r.t.add ∧ r.t.add ≤ 0) ∧ (0 ≤ r.t.top ∧ r.t.top ≤ 0) ∧ (0 ≤ r.t.half ∧ r.t.half ≤ 0) := by
 have e : kn r = 6 := by simp [kn, hk]
 constructor
 ·intro F
  obtain ⟨_, _, _, h1, h2, h3, h4, h5, h6, h7, h8, h9, h10⟩ := F
  rw [e] at h1 h3 h4 h5 h6 h7 h8 h10
  exact ⟨h1, h2, h3, h4, h5, h6, h7, h8, h9, h10 _ (by simp [Tb.l]), h10 _ (by simp [Tb.l]), h10 _ (by simp [Tb.l]), h10 _ (by simp [Tb.l]), h10 _ (by simp [Tb.l]), h10 _ (by simp [Tb.l])⟩
 ·rintro ⟨h1, h2, h3, h4, h5, h6, h7, h8, h9, t0, t1, t2, t3, t4, t5⟩
  refine ⟨by rw [e]; decide, by rw [e]; decide, by rw [e, hk]; rfl, ?_, h2, ?_, ?_, ?_, ?_, ?_, ?_, h9, ?_⟩ <;> rw [e]
  ·exact h1
  ·exact h3
  ·exact h4
  ·exact h5
  ·exact h6
  ·exact h7
  ·exact h8
  ·intro x hx
   have hx : x = r.t.hot ∨ x = r.t.warm ∨ x = r.t.gap ∨ x = r.t.add ∨ x = r.t.top ∨ x = r.t.half := by simpa [Tb.l] using hx
   rcases hx with rfl | rfl | rfl | rfl | rfl | rfl <;> assumption
theorem okF7 {r : Rc} (hk : r.kind = 7) : OkF r ↔ (0 ≤ ((r.key.size : Nat) : Int) ∧ ((r.key.size : Nat) : Int) ≤ 0) ∧ (∀ c ∈ nums r.key, 33 ≤ c ∧ c ≤ 126) ∧ (0 ≤ r.n ∧ r.n ≤ 15) ∧ (1 ≤ r.sid ∧ r.sid ≤ 2147483647) ∧ (0 ≤ r.colour ∧ r.colour ≤ 0) ∧ ((r.sids.length : Nat) : Int) = 0 ∧ (∀ x ∈ r.sids, 0 ≤ x ∧ x ≤ 0) ∧ ((r.locs.length : Nat) : Int) = 1 + 0 * ((nz r.sids : Nat) : Int) ∧ (∀ l ∈ r.locs, (0 ≤ l.d ∧ l.d ≤ 23) ∧ (0 ≤ l.s ∧ l.s ≤ 63) ∧ 1 ≤ l.i ∧ l.i ≤ 2147483647) ∧ (0 ≤ r.t.hot ∧ r.t.hot ≤ 0) ∧ (0 ≤ r.t.warm ∧ r.t.warm ≤ 0) ∧ (0 ≤ r.t.gap ∧ r.t.gap ≤ 0) ∧ (0 ≤ r.t.add ∧ r.t.add ≤ 0) ∧ (0 ≤ r.t.top ∧ r.t.top ≤ 0) ∧ (0 ≤ r.t.half ∧ r.t.half ≤ 0) := by
 have e : kn r = 7 := by simp [kn, hk]
 constructor
 ·intro F
  obtain ⟨_, _, _, h1, h2, h3, h4, h5, h6, h7, h8, h9, h10⟩ := F
  rw [e] at h1 h3 h4 h5 h6 h7 h8 h10
  exact ⟨h1, h2, h3, h4, h5, h6, h7, h8, h9, h10 _ (by simp [Tb.l]), h10 _ (by simp [Tb.l]), h10 _ (by simp [Tb.l]), h10 _ (by simp [Tb.l]), h10 _ (by simp [Tb.l]), h10 _ (by simp [Tb.l])⟩
 ·rintro ⟨h1, h2, h3, h4, h5, h6, h7, h8, h9, t0, t1, t2, t3, t4, t5⟩
  refine ⟨by rw [e]; decide, by rw [e]; decide, by rw [e, hk]; rfl, ?_, h2, ?_, ?_, ?_, ?_, ?_, ?_, h9, ?_⟩ <;> rw [e]
  ·exact h1
  ·exact h3
  ·exact h4
  ·exact h5
  ·exact h6
  ·exact h7
  ·exact h8
  ·intro x hx
   have hx : x = r.t.hot ∨ x = r.t.warm ∨ x = r.t.gap ∨ x = r.t.add ∨ x = r.t.top ∨ x = r.t.half := by simpa [Tb.l] using hx
   rcases hx with rfl | rfl | rfl | rfl | rfl | rfl <;> assumption
theorem okF8 {r : Rc} (hk : r.kind = 8) : OkF r ↔ (0 ≤ ((r.key.size : Nat) : Int) ∧ ((r.key.size : Nat) : Int) ≤ 0) ∧ (∀ c ∈ nums r.key, 33 ≤ c ∧ c ≤ 126) ∧ (0 ≤ r.n ∧ r.n ≤ 0) ∧ (0 ≤ r.sid ∧ r.sid ≤ 0) ∧ (0 ≤ r.colour ∧ r.colour ≤ 0) ∧ ((r.sids.length : Nat) : Int) = 0 ∧ (∀ x ∈ r.sids, 0 ≤ x ∧ x ≤ 0) ∧ ((r.locs.length : Nat) : Int) = 0 + 0 * ((nz r.sids : Nat) : Int) ∧ (∀ l ∈ r.locs, (0 ≤ l.d ∧ l.d ≤ 23) ∧ (0 ≤ l.s ∧ l.s ≤ 63) ∧ 1 ≤ l.i ∧ l.i ≤ 2147483647) ∧ (0 ≤ r.t.hot ∧ r.t.hot ≤ 1000000) ∧ (0 ≤ r.t.warm ∧ r.t.warm ≤ 1000000) ∧ (0 ≤ r.t.gap ∧ r.t.gap ≤ 1000000) ∧ (0 ≤ r.t.add ∧ r.t.add ≤ 1000000) ∧ (0 ≤ r.t.top ∧ r.t.top ≤ 1000000) ∧ (0 ≤ r.t.half ∧ r.t.half ≤ 1000000) := by
 have e : kn r = 8 := by simp [kn, hk]
 constructor
 ·intro F
  obtain ⟨_, _, _, h1, h2, h3, h4, h5, h6, h7, h8, h9, h10⟩ := F
  rw [e] at h1 h3 h4 h5 h6 h7 h8 h10
  exact ⟨h1, h2, h3, h4, h5, h6, h7, h8, h9, h10 _ (by simp [Tb.l]), h10 _ (by simp [Tb.l]), h10 _ (by simp [Tb.l]), h10 _ (by simp [Tb.l]), h10 _ (by simp [Tb.l]), h10 _ (by simp [Tb.l])⟩
 ·rintro ⟨h1, h2, h3, h4, h5, h6, h7, h8, h9, t0, t1, t2, t3, t4, t5⟩
  refine ⟨by rw [e]; decide, by rw [e]; decide, by rw [e, hk]; rfl, ?_, h2, ?_, ?_, ?_, ?_, ?_, ?_, h9, ?_⟩ <;> rw [e]
  ·exact h1
  ·exact h3
  ·exact h4
  ·exact h5
  ·exact h6
  ·exact h7
  ·exact h8
  ·intro x hx
   have hx : x = r.t.hot ∨ x = r.t.warm ∨ x = r.t.gap ∨ x = r.t.add ∨ x = r.t.top ∨ x = r.t.half := by simpa [Tb.l] using hx
   rcases hx with rfl | rfl | rfl | rfl | rfl | rfl <;> assumption
theorem kok_iff {s : ByteArray} : kok s = true ↔ (1 ≤ s.size ∧ s.size ≤ 16) ∧ ∀ c ∈ nums s, 33 ≤ c ∧ c ≤ 126 := by
 unfold kok
 simp only [Bool.and_eq_true, decide_eq_true_eq, List.all_eq_true]
 have hl : (nums s).length = s.size := nums_length s
 constructor
 ·rintro ⟨⟨h1, h2⟩, h3⟩
  rw [List.take_of_length_le (by omega)] at h1
  exact ⟨⟨h2, h3⟩, fun c hc => by have := h1 c hc; simpa [pch] using this⟩
 ·rintro ⟨⟨h2, h3⟩, h1⟩
  refine ⟨⟨fun c hc => ?_, h2⟩, h3⟩
  have := h1 c (List.mem_of_mem_take hc)
  simpa [pch] using this
theorem spn_no {lo hi x : Int} (h : spn lo hi x = false) : ¬ (lo ≤ x ∧ x ≤ hi) := fun a => by rw [spn_iff.2 a] at h; cases h
theorem key_nil {s : ByteArray} : s.toList = [] ↔ s.size = 0 := by
 have e0 : (⟨#[]⟩ : ByteArray).toList = [] := by
  unfold ByteArray.toList
  unfold ByteArray.toList.loop
  simp
  exact fun h => absurd h (Nat.not_lt_zero 0)
 constructor
 ·intro h
  have : s = ⟨#[]⟩ := bytes_inj (h.trans e0.symm)
  rw [this]
  rfl
 ·intro h
  have : s = ⟨#[]⟩ := ByteArray.ext (Array.eq_empty_of_size_eq_zero h)
  rw [this, e0]
theorem key_none {s : ByteArray} (h : s.size = 0) : ∀ c ∈ nums s, 33 ≤ c ∧ c ≤ 126 := fun c hc => by
 have : nums s = [] := List.eq_nil_of_length_eq_zero ((nums_length s).trans h)
 rw [this] at hc
 cases hc
theorem i6_cells {w : World} {q : Nat} {t : Tb} (h : w.heap[q]? = some (.cells #[.int .i64 t.hot, .int .i64 t.warm, .int .i64 t.gap, .int .i64 t.add, .int .i64 t.top, .int .i64 t.half] 67 (0, 0))) (i : Nat) (x : Int) (hx : t.l[i]? = some x) : w.cell? ⟨q, i, none⟩ = some (.int .i64 x) := by
 simp only [World.cell?, h]
 match i, hx with
 | 0, hx => cases hx; rfl
 | 1, hx => cases hx; rfl
 | 2, hx => cases hx; rfl
 | 3, hx => cases hx; rfl
 | 4, hx => cases hx; rfl
 | 5, hx => cases hx; rfl
theorem t_bounds {t : Tb} {x lo hi : Int} (h : x ∈ t.l) (b : (lo ≤ t.hot ∧ t.hot ≤ hi) ∧ (lo ≤ t.warm ∧ t.warm ≤ hi) ∧ (lo ≤ t.gap ∧ t.gap ≤ hi) ∧ (lo ≤ t.add ∧ t.add ≤ hi) ∧ (lo ≤ t.top ∧ t.top ≤ hi) ∧ (lo ≤ t.half ∧ t.half ≤ hi)) : lo ≤ x ∧ x ≤ hi := by
 have hx : x = t.hot ∨ x = t.warm ∨ x = t.gap ∨ x = t.add ∨ x = t.top ∨ x = t.half := by simpa [Tb.l] using h
 obtain ⟨b0, b1, b2, b3, b4, b5⟩ := b
 rcases hx with rfl | rfl | rfl | rfl | rfl | rfl <;> assumption
theorem t0_bounds {x : Int} (h : x ∈ tb0.l) : 0 ≤ x ∧ x ≤ 1000000 := t_bounds h ⟨by decide, by decide, by decide, by decide, by decide, by decide⟩
theorem b5_cells {w : World} {q : Nat} {a b c d e : Bool} (h : w.heap[q]? = some (.cells #[.bool a, .bool b, .bool c, .bool d, .bool e] 63 (0, 0))) : w.cell? ⟨q, 0, none⟩ = some (.bool a) ∧ w.cell? ⟨q, 1, none⟩ = some (.bool b) ∧ w.cell? ⟨q, 2, none⟩ = some (.bool c) ∧ w.cell? ⟨q, 3, none⟩ = some (.bool d) ∧ w.cell? ⟨q, 4, none⟩ = some (.bool e) := by
 simp only [World.cell?, h]
 exact ⟨rfl, rfl, rfl, rfl, rfl⟩
end Go.Proofs.YtpdkcpjofofkoaaDoor
namespace Go.Proofs.YtpdkcpjofofkoaaDoor
open Go.RowKit
set_option linter.unusedVariables false

theorem strOf_nums (s : ByteArray) : strOf (nums s) = s := by
 apply ByteArray.ext
 simp only [strOf, nums, List.map_map]
 have : (UInt8.ofNat ∘ UInt8.toNat) = id := by funext x; simp
 rw [this, List.map_id]
theorem nx_app (z l : List Nat) : nx z.length (z ++ l) = z := by
 unfold nx
 rw [List.take_left', show z.length - (z ++ l).length = 0 by rw [List.length_append]; omega]
 ·simp [zer]
 ·rfl
theorem num1_cons (x : Nat) (l : List Nat) : num 1 (x :: l) = x := by
 have := nx_app [x] l
 show fold8 (nx 1 (x :: l)) = x
 rw [show nx 1 (x :: l) = [x] from this]
 simp [fold8]
theorem num4_app (v : Nat) (h : v < 4294967296) (l : List Nat) : num 4 (w4 v ++ l) = v := by
 have := nx_app (w4 v) l
 show fold8 (nx 4 (w4 v ++ l)) = v
 rw [show nx 4 (w4 v ++ l) = w4 v from this]
 simp only [fold8, w4, List.foldl_cons, List.foldl_nil]
 omega
theorem drop4_app (v : Nat) (l : List Nat) : (w4 v ++ l).drop 4 = l := by
 have : (w4 v).length = 4 := rfl
 rw [← this, List.drop_left]
theorem wds_cons (x : Int) (l : List Int) : wds (x :: l) = w4 x.toNat ++ wds l := by simp [wds]
theorem los_cons (x : Lo) (l : List Lo) : los (x :: l) = loB x ++ los l := by simp [los]
theorem rdInts_succ (c : Nat) (b : List Nat) : rdInts (c + 1) b = ((num 4 b : Nat) : Int) :: rdInts c (b.drop 4) := by
 simp only [rdInts, List.range_succ_eq_map, List.map_cons, List.map_map, Nat.mul_zero, List.drop_zero]
 congr 1
 apply List.map_congr_left
 intro i _
 simp only [Function.comp, List.drop_drop]
 rw [show 4 * (i + 1) = 4 + 4 * i by omega]
theorem rdInts_app : ∀ (zs : List Int) (l : List Nat), (∀ x ∈ zs, 0 ≤ x ∧ x ≤ 4294967295) → rdInts zs.length (wds zs ++ l) = zs ∧ (wds zs ++ l).drop (4 * zs.length) = l := by
 intro zs
 induction zs with
 | nil => intro l _; exact ⟨rfl, rfl⟩
 | cons x zs ih =>
  intro l h
  have hx := h x (by simp)
  obtain ⟨i1, i2⟩ := ih l fun y hy => h y (by simp [hy])
  rw [wds_cons, List.append_assoc, List.length_cons]
  refine ⟨?_, ?_⟩
  ·rw [rdInts_succ, num4_app _ (by omega), drop4_app, i1, Int.toNat_of_nonneg hx.1]
  ·rw [show 4 * (zs.length + 1) = 4 + 4 * zs.length by omega, ← List.drop_drop, drop4_app, i2]
theorem rdLocs_succ (c : Nat) (b : List Nat) : rdLocs (c + 1) b = locOf b :: rdLocs c (b.drop 6) := by
 simp only [rdLocs, List.range_succ_eq_map, List.map_cons, List.map_map, Nat.mul_zero, List.drop_zero]
 congr 1
 apply List.map_congr_left
 intro i _
 simp only [Function.comp, List.drop_drop]
 rw [show 6 * (i + 1) = 6 + 6 * i by omega]
theorem locOf_app (x : Lo) (l : List Nat) (h : (0 ≤ x.d ∧ x.d ≤ 23) ∧ (0 ≤ x.s ∧ x.s ≤ 63) ∧ 1 ≤ x.i ∧ x.i ≤ 2147483647) : locOf (loB x ++ l) = x ∧ (loB x ++ l).drop 6 = l := by
 obtain ⟨d, s, i⟩ := x
 obtain ⟨⟨a1, a2⟩, ⟨a3, a4⟩, a5, a6⟩ := h
 simp only at a1 a2 a3 a4 a5 a6
 have e : loB ⟨d, s, i⟩ ++ l = d.toNat :: s.toNat :: (w4 i.toNat ++ l) := by simp [loB]
 rw [e]
 refine ⟨?_, ?_⟩
 ·unfold locOf
  rw [num1_cons, show (d.toNat :: s.toNat :: (w4 i.toNat ++ l)).drop 1 = s.toNat :: (w4 i.toNat ++ l) from rfl, num1_cons, show (d.toNat :: s.toNat :: (w4 i.toNat ++ l)).drop 2 = w4 i.toNat ++ l from rfl, num4_app _ (by omega)]
  rw [Int.toNat_of_nonneg a1, Int.toNat_of_nonneg a3, Int.toNat_of_nonneg (by omega)]
 ·rw [show (6 : Nat) = 2 + 4 from rfl, ← List.drop_drop]
  exact drop4_app _ _
theorem rdLocs_app : ∀ (ls : List Lo) (l : List Nat), (∀ x ∈ ls, (0 ≤ x.d ∧ x.d ≤ 23) ∧ (0 ≤ x.s ∧ x.s ≤ 63) ∧ 1 ≤ x.i ∧ x.i ≤ 2147483647) → rdLocs ls.length (los ls ++ l) = ls ∧ (los ls ++ l).drop (6 * ls.length) = l := by
 intro ls
 induction ls with
 | nil => intro l _; exact ⟨rfl, rfl⟩
 | cons x ls ih =>
  intro l h
  obtain ⟨i1, i2⟩ := ih l fun y hy => h y (by simp [hy])
  obtain ⟨j1, j2⟩ := locOf_app x (los ls ++ l) (h x (by simp))
  rw [los_cons, List.append_assoc, List.length_cons]
  refine ⟨?_, ?_⟩
  ·rw [rdLocs_succ, j1, j2, i1]
  ·rw [show 6 * (ls.length + 1) = 6 + 6 * ls.length by omega, ← List.drop_drop, j2, i2]
theorem tabOf_app (t : Tb) (l : List Nat) (h : ∀ x ∈ t.l, 0 ≤ x ∧ x ≤ 4294967295) : tabOf (wds t.l ++ l) = t := by
 obtain ⟨a, b, c, d, e, f⟩ := t
 have h1 := h a (by simp [Tb.l])
 have h2 := h b (by simp [Tb.l])
 have h3 := h c (by simp [Tb.l])
 have h4 := h d (by simp [Tb.l])
 have h5 := h e (by simp [Tb.l])
 have h6 := h f (by simp [Tb.l])
 have e0 : wds (Tb.l ⟨a, b, c, d, e, f⟩) ++ l = w4 a.toNat ++ (w4 b.toNat ++ (w4 c.toNat ++ (w4 d.toNat ++ (w4 e.toNat ++ (w4 f.toNat ++ l))))) := by simp [Tb.l, wds]
 rw [e0]
 unfold tabOf
 rw [show (20 : Nat) = 4 + (4 + (4 + (4 + 4))) from rfl, show (16 : Nat) = 4 + (4 + (4 + 4)) from rfl, show (12 : Nat) = 4 + (4 + 4) from rfl, show (8 : Nat) = 4 + 4 from rfl]
 simp only [← List.drop_drop, drop4_app]
 rw [num4_app _ (by omega), num4_app _ (by omega), num4_app _ (by omega), num4_app _ (by omega), num4_app _ (by omega), num4_app _ (by omega)]
 rw [Int.toNat_of_nonneg h1.1, Int.toNat_of_nonneg h2.1, Int.toNat_of_nonneg h3.1, Int.toNat_of_nonneg h4.1, Int.toNat_of_nonneg h5.1, Int.toNat_of_nonneg h6.1]
theorem opt_pos {h : Int} {l : List Nat} (e : 0 < h) : opt h l = l := if_pos e
theorem opt_neg {h : Int} {l : List Nat} (e : ¬ 0 < h) : opt h l = [] := if_neg e
/-- What is encoded is read again. -/
theorem read_enc {r : Rc} (F : OkF r) : readR (encR r) = r := by
 have hk1 := F.k1
 have hk8 := F.k8
 have hkk := F.kk
 have hB := sh_bounds (kn r) (by omega)
 have hn := F.n
 have hs := F.sid
 have hc := F.co
 have hkey := F.key
 obtain ⟨T8, hT8⟩ : ∃ T, T = opt (sh (kn r) 14) (wds r.t.l) := ⟨_, rfl⟩
 obtain ⟨T7, hT7⟩ : ∃ T, T = los r.locs ++ T8 := ⟨_, rfl⟩
 obtain ⟨T6, hT6⟩ : ∃ T, T = opt (sh (kn r) 12) [r.locs.length] ++ T7 := ⟨_, rfl⟩
 obtain ⟨T5, hT5⟩ : ∃ T, T = wds r.sids ++ T6 := ⟨_, rfl⟩
 obtain ⟨T4, hT4⟩ : ∃ T, T = opt (sh (kn r) 7) [r.colour.toNat] ++ T5 := ⟨_, rfl⟩
 obtain ⟨T3, hT3⟩ : ∃ T, T = opt (sh (kn r) 5) (wds [r.sid]) ++ T4 := ⟨_, rfl⟩
 obtain ⟨T2, hT2⟩ : ∃ T, T = opt (sh (kn r) 3) [r.n.toNat] ++ T3 := ⟨_, rfl⟩
 obtain ⟨T1, hT1⟩ : ∃ T, T = opt (sh (kn r) 1) (r.key.size :: nums r.key) ++ T2 := ⟨_, rfl⟩
 have hE : encR r = kn r :: T1 := by
  unfold encR
  rw [show r.kind.toNat = kn r from rfl, hT1, hT2, hT3, hT4, hT5, hT6, hT7, hT8]
  simp only [List.append_assoc, List.cons_append, List.nil_append]
 have e2 : b2 (kn r) T1 = T2 ∧ rdKey (kn r) T1 = r.key := by
  unfold b2 rsKey rdKey
  by_cases h : 0 < sh (kn r) 1
  ·rw [if_pos h, if_pos h, hT1, opt_pos h]
   rw [List.cons_append, num1_cons, List.drop_one, List.tail_cons]
   have hl := nums_length r.key
   refine ⟨?_, ?_⟩
   ·rw [← hl, List.drop_left]
   ·rw [← hl, nx_app, strOf_nums]
  ·rw [if_neg h, if_neg h, hT1, opt_neg h]
   refine ⟨rfl, ?_⟩
   have : r.key.size = 0 := by omega
   apply ByteArray.ext
   have h0 : r.key.data.size = 0 := this
   exact (Array.size_eq_zero_iff.1 h0).symm
 have e3 : b3 (kn r) T1 = T3 ∧ ((rdNum (sh (kn r) 3) 1 (b2 (kn r) T1) : Nat) : Int) = r.n := by
  unfold b3 rsNum rdNum
  rw [e2.1]
  by_cases h : 0 < sh (kn r) 3
  ·rw [if_pos h, if_pos h, hT2, opt_pos h, List.singleton_append, num1_cons]
   exact ⟨rfl, Int.toNat_of_nonneg (by omega)⟩
  ·rw [if_neg h, if_neg h, hT2, opt_neg h]
   exact ⟨rfl, by omega⟩
 have e4 : b4 (kn r) T1 = T4 ∧ ((rdNum (sh (kn r) 5) 4 (b3 (kn r) T1) : Nat) : Int) = r.sid := by
  unfold b4 rsNum rdNum
  rw [e3.1]
  by_cases h : 0 < sh (kn r) 5
  ·have hw : wds [r.sid] = w4 r.sid.toNat := by simp [wds]
   rw [if_pos h, if_pos h, hT3, opt_pos h, hw, num4_app _ (by omega), drop4_app]
   exact ⟨rfl, Int.toNat_of_nonneg (by omega)⟩
  ·rw [if_neg h, if_neg h, hT3, opt_neg h]
   exact ⟨rfl, by omega⟩
 have e5 : b5 (kn r) T1 = T5 ∧ ((rdNum (sh (kn r) 7) 1 (b4 (kn r) T1) : Nat) : Int) = r.colour := by
  unfold b5 rsNum rdNum
  rw [e4.1]
  by_cases h : 0 < sh (kn r) 7
  ·rw [if_pos h, if_pos h, hT4, opt_pos h, List.singleton_append, num1_cons]
   exact ⟨rfl, Int.toNat_of_nonneg (by omega)⟩
  ·rw [if_neg h, if_neg h, hT4, opt_neg h]
   exact ⟨rfl, by omega⟩
 have hns : (sh (kn r) 8).toNat = r.sids.length := by have := F.ns; omega
 have e6 := rdInts_app r.sids T6 fun x hx => by have := F.sids x hx; omega
 rw [← hT5] at e6
 have e6b : b6 (kn r) T1 = T6 := by unfold b6; rw [e5.1, hns]; exact e6.2
 have e7 : b7 (kn r) T1 = T7 ∧ rdCnt (kn r) (b6 (kn r) T1) = r.locs.length := by
  unfold b7 rsNum rdCnt
  rw [e6b]
  have hnl := F.nl
  by_cases h : 0 < sh (kn r) 12
  ·rw [if_pos h, if_pos h, hT6, opt_pos h, List.singleton_append, num1_cons]
   exact ⟨rfl, rfl⟩
  ·rw [if_neg h, if_neg h, hT6, opt_neg h]
   have h0 : sh (kn r) 12 = 0 := by omega
   rw [h0, Int.zero_mul] at hnl
   exact ⟨rfl, by omega⟩
 have e8 := rdLocs_app r.locs T8 F.locs
 rw [← hT7] at e8
 have e8b : b8 (kn r) T1 = T8 := by unfold b8; rw [e7.1, e7.2]; exact e8.2
 have e9 : rdTab (sh (kn r) 14) T8 = r.t := by
  unfold rdTab
  by_cases h : 0 < sh (kn r) 14
  ·rw [if_pos h, hT8, opt_pos h]
   have := tabOf_app r.t [] fun x hx => by have := F.t x hx; omega
   rwa [List.append_nil] at this
  ·rw [if_neg h]
   have ht := F.t
   have hz : ∀ x ∈ r.t.l, x = 0 := fun x hx => by have := ht x hx; omega
   generalize r.t = t at hz
   obtain ⟨a, b, c, d, e, f⟩ := t
   simp [Tb.l] at hz
   obtain ⟨rfl, rfl, rfl, rfl, rfl, rfl⟩ := hz
   rfl
 unfold readR
 rw [hE, num1_cons, if_pos ⟨hk1, hk8⟩, List.drop_one, List.tail_cons]
 unfold readK
 rw [e2.2, e3.2, e4.2, e5.2, e5.1, e7.2, e7.1, e8b, e9, hns, e6.1, e8.1, ← hkk]
/-- What Decode tells. -/
def decR (z : List Nat) : Option Rc := if okR (readR z) = true ∧ encR (readR z) = z then some (readR z) else none
theorem decR_iff {z : List Nat} {r : Rc} : decR z = some r ↔ OkF r ∧ encR r = z := by
 unfold decR
 constructor
 ·intro h
  split at h
  ·next c => cases h; exact ⟨okR_iff.1 c.1, c.2⟩
  ·cases h
 ·rintro ⟨F, rfl⟩
  rw [read_enc F, if_pos ⟨okR_iff.2 F, rfl⟩]
/-- Unlike records have unlike bytes. -/
theorem enc_inj {r q : Rc} (F : OkF r) (G : OkF q) (h : encR r = encR q) : r = q := by rw [← read_enc F, h, read_enc G]
end Go.Proofs.YtpdkcpjofofkoaaDoor
set_option maxRecDepth 100000
namespace Go.Proofs.YtpdkcpjofofkoaaDoor
open Go.RowKit
set_option linter.unusedVariables false
theorem slm_new (w : World) (z : List Nat) (hz : ∀ x ∈ z, x < 256) (hl : z.length ≤ 9223372036854775807) : SlN (w.alloc (.cells (bys z) 5)) (some ⟨w.heap.size, 0, none⟩) z.length z :=
 ⟨rfl, .inr ⟨w.heap.size, 0, rfl, by simp, fun i hi => by rw [Nat.zero_add]; exact (Blk.new w z hz).cell i hi, fun i => small_getD hz i⟩, hl⟩
theorem one_s (n : Int) (h0 : 0 ≤ n) (h1 : n ≤ 255) (w : World) : Calls Tryd.prog 33 #[.int .i64 n] w fun e w' => ∃ o, e = .returned (.string o) ∧ o = strOf [n.toNat] ∧ Up Nul w w' := by
 obtain ⟨k, rfl⟩ := Int.eq_ofNat_of_zero_le h0
 have hm : ((k : Nat) : Int) % 256 = (k : Int) := by omega
 have hc : (convert 32 9 (.slice (some ⟨w.heap.size, 0, none⟩) 1 1)).run Tryd.prog (w.alloc (.cells #[.int .u8 (k : Nat)] 5)) = .ok (.string (strOf [k])) _ := (slm_new w [k] (by intro x hx; simp at hx; omega) (by simp)).conv 1
 rw [Int.toNat_natCast]
 obtain ⟨s, hs⟩ : ∃ s, s = strOf [k] := ⟨_, rfl⟩
 rw [← hs] at hc ⊢
 have HS := hid hs
 clear hs
 go_enter Tryd.func33, Tryd.ntmps33
 go_wp2
 go_ret
 exact ⟨s, by first | rfl | trivial, by first | rfl | exact HS.out, (Up.refl _ _).alloc _⟩
theorem w4_int (v : Nat) : (v : Int) / 16777216 % 256 = ((v / 16777216 % 256 : Nat) : Int) ∧ (v : Int) / 65536 % 256 = ((v / 65536 % 256 : Nat) : Int) ∧ (v : Int) / 256 % 256 = ((v / 256 % 256 : Nat) : Int) ∧ (v : Int) % 256 = ((v % 256 : Nat) : Int) := by omega
set_option maxHeartbeats 800000 in
theorem four_s (n : Int) (h0 : 0 ≤ n) (h1 : n ≤ 4294967295) (w : World) : Calls Tryd.prog 34 #[.int .i64 n] w fun e w' => ∃ o, e = .returned (.string o) ∧ o = strOf (w4 n.toNat) ∧ Up Nul w w' := by
 obtain ⟨v, rfl⟩ := Int.eq_ofNat_of_zero_le h0
 rw [Int.toNat_natCast]
 obtain ⟨e0, e1, e2, e3⟩ := w4_int v
 have HX : Hid (w4 v = [v / 16777216 % 256, v / 65536 % 256, v / 256 % 256, v % 256]) := rfl
 have h4 := w4_small v
 generalize v / 16777216 % 256 = x0 at e0 HX
 generalize v / 65536 % 256 = x1 at e1 HX
 generalize v / 256 % 256 = x2 at e2 HX
 generalize v % 256 = x3 at e3 HX
 rw [HX.out] at h4
 rw [HX.out]
 have hc : (convert 32 9 (.slice (some ⟨w.heap.size, 0, none⟩) 4 4)).run Tryd.prog (w.alloc (.cells #[.int .u8 x0, .int .u8 x1, .int .u8 x2, .int .u8 x3] 5)) = .ok (.string (strOf [x0, x1, x2, x3])) _ := (slm_new w [x0, x1, x2, x3] h4 (by simp)).conv 4
 obtain ⟨s, hs⟩ : ∃ s, s = strOf [x0, x1, x2, x3] := ⟨_, rfl⟩
 rw [← hs] at hc ⊢
 have HS := hid hs
 have hv : v < 4294967296 := by omega
 clear h4 HX hs h1 hv h0
 go_enter Tryd.func34, Tryd.ntmps34
 go_wp2
 go_ret
 exact ⟨s, by first | rfl | trivial, by first | rfl | exact HS.out, (Up.refl _ _).alloc _⟩
/-- Two strings one behind the other, in plain numbers. -/
theorem cat_s {a b c : ByteArray} {x y : List Nat} (h : c = a ++ b) (ha : a = strOf x) (hb : b = strOf y) : c = strOf (x ++ y) := by rw [h, ha, hb, strOf_append]
theorem los_take {ls : List Lo} {t : Nat} {l : Lo} (h : ls[t]? = some l) : los (ls.take (t + 1)) = los (ls.take t) ++ loB l := by
 rw [List.take_add_one, h]
 simp [los]
theorem wds_take {zs : List Int} {t : Nat} {x : Int} (h : zs[t]? = some x) : wds (zs.take (t + 1)) = wds (zs.take t) ++ w4 x.toNat := by
 rw [List.take_add_one, h]
 simp [wds]
theorem wds_len (zs : List Int) : (wds zs).length = 4 * zs.length := by
 induction zs with
 | nil => rfl
 | cons x l ih => rw [wds_cons, List.length_append, ih]; simp [w4]; omega
end Go.Proofs.YtpdkcpjofofkoaaDoor
