/- A record that comes in. -/
import Derived.Test.YtepggchnhgpcnaaGreatDoorPkTidy
import Derived.Test.YtepggchnhgpcnaaGreatDoorPz27
import Derived.ProofKit
import Derived.OpenShut
import Derived.Deep.Slices
set_option maxRecDepth 100000
namespace Go.Proofs.YtepggchnhgpcnaaGreatDoor
open Go.RowKit
open Go.ChangeShapes Go.WideShapes Go.ChangeAt
set_option linter.unusedVariables false
theorem rows13 {α : Type} : ∀ (l : List α), l.length = 13 → ∃ a0 a1 a2 a3 a4 a5 a6 a7 a8 a9 a10 a11 a12, l = [a0, a1, a2, a3, a4, a5, a6, a7, a8, a9, a10, a11, a12]
 | [a0, a1, a2, a3, a4, a5, a6, a7, a8, a9, a10, a11, a12], _ => ⟨a0, a1, a2, a3, a4, a5, a6, a7, a8, a9, a10, a11, a12, rfl⟩
theorem rows8 {α : Type} : ∀ (l : List α), l.length = 8 → ∃ a0 a1 a2 a3 a4 a5 a6 a7, l = [a0, a1, a2, a3, a4, a5, a6, a7]
 | [a0, a1, a2, a3, a4, a5, a6, a7], _ => ⟨a0, a1, a2, a3, a4, a5, a6, a7, rfl⟩
theorem rows6 {α : Type} : ∀ (l : List α), l.length = 6 → ∃ a0 a1 a2 a3 a4 a5, l = [a0, a1, a2, a3, a4, a5]
 | [a0, a1, a2, a3, a4, a5], _ => ⟨a0, a1, a2, a3, a4, a5, rfl⟩
theorem rows3 {α : Type} : ∀ (l : List α), l.length = 3 → ∃ a0 a1 a2, l = [a0, a1, a2]
 | [a0, a1, a2], _ => ⟨a0, a1, a2, rfl⟩
theorem CameI.row {w : World} {a : Option Addr} {len cap : Nat} {zs : List Int} (h : CameI w a len cap zs) : (zs.take len).length = len ∧ RowI w a (zs.take len) ∧ len ≤ cap ∧ cap ≤ maxLen := by
 rcases h with ⟨rfl, rfl, rfl, rfl⟩ | ⟨⟨g, o, s⟩, rfl, hl, hm, hz, hc, _⟩
 ·exact ⟨rfl, .inl rfl, Nat.le_refl _, Nat.zero_le _⟩
 ·have hlen : (zs.take len).length = len := by rw [List.length_take]; omega
  by_cases h0 : len = 0
  ·exact ⟨hlen, .inl (List.eq_nil_of_length_eq_zero (hlen.trans h0)), hl, hm⟩
  ·have hs : s = none := by
    have := World.cell?_spot (hc 0 (by omega))
    simpa [Addr.add] using this
   subst hs
   have hg : g < w.heap.size := by
    have := lt_of_cell (hc 0 (by omega))
    rwa [add_off] at this
   refine ⟨hlen, .inr ⟨g, o, rfl, hg, fun i x hi => ?_⟩, hl, hm⟩
   have hlt := (List.getElem?_eq_some_iff.1 hi).1
   have := hc i (by omega)
   rw [add_off] at this
   rw [this]
   rw [List.getElem?_take, if_pos (by omega)] at hi
   simp [List.getD_eq_getElem?_getD, hi]
section
variable {H : Type} {enc : TypeId × Value → H} {w : World} {held : Bool}
theorem open_loc {n : Nat} {cs : List Value} {y : DataW H × List MemPlace} (h : DataW.trod enc Tryz.prog w 0 (fun _ => true) held n 64 cs = some y) : ∃ l : Lo, cs = l.cells := by
 obtain ⟨xs, k, _, _, hl, hxl, hf⟩ := DataW.trod_struct Tryz.underlying64 h
 have hl3 : cs.length = 3 := hl.trans (by kernel_rfl)
 obtain ⟨v0, v1, v2, rfl⟩ := rows3 cs hl3
 have hx3 : xs.length = 3 := hxl
 obtain ⟨y0, y1, y2, rfl⟩ := rows3 xs hx3
 have ci : Tryz.prog.cellsOf 3 = 1 := by kernel_rfl
 have g0 := hf 0 _ rfl
 have g1 := hf 1 _ rfl
 have g2 := hf 2 _ rfl
 simp [ci] at g0 g1 g2
 obtain ⟨z0, q0, _, _⟩ := DataW.trod_int Tryz.underlying3 g0
 obtain ⟨z1, q1, _, _⟩ := DataW.trod_int Tryz.underlying3 g1
 obtain ⟨z2, q2, _, _⟩ := DataW.trod_int Tryz.underlying3 g2
 simp only [List.cons.injEq, and_true] at q0 q1 q2
 subst q0 q1 q2
 exact ⟨⟨z0, z1, z2⟩, rfl⟩
theorem open_locs {fuel : Nat} {cs : List Value} {x : DataW H × List MemPlace} (h : DataW.trod enc Tryz.prog w 0 (fun _ => true) held fuel 24 cs = some x) :
  ∃ a len cap ls, cs = [.slice a len cap] ∧ ls.length = len ∧ RowL w a ls ∧ len ≤ cap ∧ cap ≤ maxLen := by
 have c3 : Tryz.prog.cellsOf 64 = 3 := by kernel_rfl
 rcases Go.Deep.open_slice Tryz.underlying24 h with ⟨e, _⟩ | ⟨ad, l, c, m, n, Dd, Pl, e, _, hl, hm, hmm, _, hx⟩
 ·exact ⟨none, 0, 0, [], e, rfl, .inl rfl, Nat.le_refl _, Nat.zero_le _⟩
 ·simp only [if_true] at hmm
  have hlm : l ≤ m := by omega
  by_cases h0 : l = 0
  ·exact ⟨some ad, l, c, [], e, h0.symm, .inl rfl, hl, hm⟩
  ·obtain ⟨g, o, spot⟩ := ad
   have first : ∃ v, w.cell? ⟨g, o, spot⟩ = some v := by
    obtain ⟨cs', h1, _⟩ := hx 0 (by omega)
    obtain ⟨_, hln, hcell⟩ := World.cells?_some h1
    rw [c3] at hln
    have := hcell 0 (by rw [c3]; omega)
    match cs', hln with
    | v :: _, _ => exact ⟨v, by simpa [Addr.add] using this⟩
   obtain ⟨v0, hv0⟩ := first
   have hs : spot = none := by simpa using World.cell?_spot hv0
   subst hs
   have each : ∀ i, i < l → ∃ v : Lo, ∀ j u, v.cells[j]? = some u → w.cell? ⟨g, o + i * 3 + j, none⟩ = some u := fun i hi => by
    obtain ⟨cs', h1, h2⟩ := hx i (by omega)
    obtain ⟨_, hln, hcell⟩ := World.cells?_some h1
    rw [c3] at hln hcell
    obtain ⟨v, rfl⟩ := open_loc h2
    refine ⟨v, fun j u hj => ?_⟩
    have hj3 : j < 3 := (List.getElem?_eq_some_iff.1 hj).1
    have := hcell j hj3
    rw [add_off, add_off] at this
    rw [this, hj]
   refine ⟨_, l, c, (List.range l).map fun i => if h : i < l then (each i h).choose else ⟨0, 0, 0⟩, e, by simp, .inr ⟨g, o, rfl, lt_of_cell hv0, fun i x hi j u hj => ?_⟩, hl, hm⟩
   have hlt : i < l := by have := (List.getElem?_eq_some_iff.1 hi).1; simpa using this
   have hx' : x = (each i hlt).choose := by
    rw [List.getElem?_map, List.getElem?_range hlt] at hi
    simp only [Option.map_some, Option.some.injEq, hlt, dif_pos] at hi
    exact hi.symm
   rw [hx'] at hj
   exact (each i hlt).choose_spec j u hj
theorem open_tab {n : Nat} {cs : List Value} {y : DataW H × List MemPlace} (h : DataW.trod enc Tryz.prog w 0 (fun _ => true) held n 26 cs = some y) : ∃ t : Tb, cs = [.int .i64 t.hot, .int .i64 t.warm, .int .i64 t.gap, .int .i64 t.add, .int .i64 t.top, .int .i64 t.half] := by
 obtain ⟨xs, k, _, _, hl, hxl, hf⟩ := DataW.trod_struct Tryz.underlying26 h
 have hl6 : cs.length = 6 := hl.trans (by kernel_rfl)
 obtain ⟨v0, v1, v2, v3, v4, v5, rfl⟩ := rows6 cs hl6
 have hx6 : xs.length = 6 := hxl
 obtain ⟨y0, y1, y2, y3, y4, y5, rfl⟩ := rows6 xs hx6
 have ci : Tryz.prog.cellsOf 3 = 1 := by kernel_rfl
 have g0 := hf 0 _ rfl
 have g1 := hf 1 _ rfl
 have g2 := hf 2 _ rfl
 have g3 := hf 3 _ rfl
 have g4 := hf 4 _ rfl
 have g5 := hf 5 _ rfl
 simp [ci] at g0 g1 g2 g3 g4 g5
 obtain ⟨z0, q0, _, _⟩ := DataW.trod_int Tryz.underlying3 g0
 obtain ⟨z1, q1, _, _⟩ := DataW.trod_int Tryz.underlying3 g1
 obtain ⟨z2, q2, _, _⟩ := DataW.trod_int Tryz.underlying3 g2
 obtain ⟨z3, q3, _, _⟩ := DataW.trod_int Tryz.underlying3 g3
 obtain ⟨z4, q4, _, _⟩ := DataW.trod_int Tryz.underlying3 g4
 obtain ⟨z5, q5, _, _⟩ := DataW.trod_int Tryz.underlying3 g5
 simp only [List.cons.injEq, and_true] at q0 q1 q2 q3 q4 q5
 subst q0 q1 q2 q3 q4 q5
 exact ⟨⟨z0, z1, z2, z3, z4, z5⟩, rfl⟩
theorem open_rec {n : Nat} {cs : List Value} {y : DataW H × List MemPlace} (h : DataW.trod enc Tryz.prog w 0 (fun _ => true) held n 28 cs = some y) :
  ∃ (r : Rc) (sa la : Option Addr) (sc lc : Nat), cs = (rcellsL r (.slice sa r.sids.length sc) (.slice la r.locs.length lc)).toList ∧ RowI w sa r.sids ∧ RowL w la r.locs ∧ r.sids.length ≤ sc ∧ sc ≤ maxLen ∧ r.locs.length ≤ lc ∧ lc ≤ maxLen ∧ r.key.size ≤ maxLen := by
 obtain ⟨xs, k, _, _, hl, hxl, hf⟩ := DataW.trod_struct Tryz.underlying28 h
 have hl13 : cs.length = 13 := hl.trans (by kernel_rfl)
 obtain ⟨v0, v1, v2, v3, v4, v5, v6, v7, v8, v9, v10, v11, v12, rfl⟩ := rows13 cs hl13
 have hx8 : xs.length = 8 := hxl
 obtain ⟨y0, y1, y2, y3, y4, y5, y6, y7, rfl⟩ := rows8 xs hx8
 have ci : Tryz.prog.cellsOf 3 = 1 := by kernel_rfl
 have cst : Tryz.prog.cellsOf 9 = 1 := by kernel_rfl
 have cl : Tryz.prog.cellsOf 23 = 1 := by kernel_rfl
 have cL : Tryz.prog.cellsOf 24 = 1 := by kernel_rfl
 have ct : Tryz.prog.cellsOf 26 = 6 := by kernel_rfl
 have g0 := hf 0 _ rfl
 have g1 := hf 1 _ rfl
 have g2 := hf 2 _ rfl
 have g3 := hf 3 _ rfl
 have g4 := hf 4 _ rfl
 have g5 := hf 5 _ rfl
 have g6 := hf 6 _ rfl
 have g7 := hf 7 _ rfl
 simp [ci, cst, cl, cL, ct] at g0 g1 g2 g3 g4 g5 g6 g7
 obtain ⟨z0, q0, _, _⟩ := DataW.trod_int Tryz.underlying3 g0
 obtain ⟨z1, q1, _, hks⟩ := DataW.trod_string Tryz.underlying9 g1
 obtain ⟨z2, q2, _, _⟩ := DataW.trod_int Tryz.underlying3 g2
 obtain ⟨z3, q3, _, _⟩ := DataW.trod_int Tryz.underlying3 g3
 obtain ⟨sa, sl, sc, zs, q4, hs⟩ : ∃ sa sl sc zs, v4 = .slice sa sl sc ∧ CameI w sa sl sc zs := by
  rcases open_ints Tryz.underlying23 Tryz.underlying3 ci g4 with ⟨e, _⟩ | ⟨a, l, c, zs, e, _, hl, hm, hz, _, hcell, hwz⟩
  ·exact ⟨none, 0, 0, [], by simpa using e, .inl ⟨rfl, rfl, rfl, rfl⟩⟩
  ·exact ⟨some a, l, c, zs, by simpa using e, .inr ⟨a, rfl, hl, hm, by simpa using hz, hcell, hwz⟩⟩
 obtain ⟨z5, q5, _, _⟩ := DataW.trod_int Tryz.underlying3 g5
 obtain ⟨la, ll, lc, ls, q6, hl1, hl2, hl3, hl4⟩ := open_locs g6
 obtain ⟨t, q7⟩ := open_tab g7
 obtain ⟨hs1, hs2, hs3, hs4⟩ := hs.row
 simp only [List.cons.injEq, and_true] at q0 q1 q2 q3 q5 q6 q7
 obtain ⟨t0, t1, t2, t3, t4, t5⟩ := q7
 subst q0 q1 q2 q3 q4 q5 q6 t0 t1 t2 t3 t4 t5 hl1
 generalize zs.take sl = ys at hs1 hs2
 subst hs1
 exact ⟨⟨z0, z1, z2, z3, ys, z5, ls, t⟩, sa, la, sc, lc, rfl, hs2, hl2, hs3, hs4, hl3, hl4, hks⟩
end
end Go.Proofs.YtepggchnhgpcnaaGreatDoor
