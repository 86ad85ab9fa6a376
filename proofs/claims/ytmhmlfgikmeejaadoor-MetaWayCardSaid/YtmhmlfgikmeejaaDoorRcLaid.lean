/- What the condition of a row that lists the program's own variable tells of its cells. -/
import Derived.Test.YtmhmlfgikmeejaaDoorRows
import Derived.Test.YtmhmlfgikmeejaaDoorRcBase
import Derived.LaidLaws
import Derived.LaidMore
import Derived.MakeChecks
import Derived.OpenShut
set_option maxRecDepth 100000
namespace Go.Proofs.YtmhmlfgikmeejaaDoor
open Go.RowKit
/-- The value of one cell of a datum of numbers, arrays and structs. -/
def atD (P : Program) : Nat → TypeId → DataW Unit → Nat → Option Value
  | 0, _, _, _ => none
  | m + 1, t, d, off =>
    match P.underlying t, d with
    | some (.int _), .lit (.int k z) => if off = 0 then some (.int k z) else none
    | some (.array _ e), .agg ds => (ds[off / P.cellsOf e]?).bind fun d' => atD P m e d' (off % P.cellsOf e)
    | some (.struct fs), .agg ds => (fs.toList.findIdx? fun f => decide (off < f.offset + P.cellsOf f.type)).bind fun i => (fs[i]?).bind fun f => (ds[i]?).bind fun d' =>
        if f.offset ≤ off then atD P m f.type d' (off - f.offset) else none
    | _, _ => none
theorem atD_cell {P : Program} {w : World} {enc : TypeId × Value → Unit} {base : Nat} {sp : Nat → Bool} {held : Bool} : ∀ (m fuel : Nat) (t : TypeId) (d : DataW Unit) (cs : List Value) (p : List MemPlace) (off : Nat) (v : Value),
    DataW.trod enc P w base sp held fuel t cs = some (d, p) → atD P m t d off = some v → cs[off]? = some v
  | 0, _, _, _, _, _, _, _, _, h => by cases h
  | m + 1, fuel, t, d, cs, p, off, v, ht, h => by
    unfold atD at h
    split at h
    · rename_i k' k z hu
      obtain ⟨n, rfl, e, _⟩ := DataW.trod_int hu ht
      cases e
      split at h
      · rename_i h0; subst h0; simpa using h
      · cases h
    · rename_i n e ds hu
      obtain ⟨xs, m', rfl, hx, _, hn, hel⟩ := DataW.trod_array hu ht
      cases hx
      obtain ⟨d', h1, h2⟩ := Option.bind_eq_some_iff.1 h
      rw [List.getElem?_map] at h1
      obtain ⟨x, hx1, rfl⟩ := Option.map_eq_some_iff.1 h1
      have hi : off / P.cellsOf e < n := by
        have := (List.getElem?_eq_some_iff.1 hx1).1
        omega
      have h3 := atD_cell m m' e x.1 _ x.2 _ v ((hel _ hi).trans hx1) h2
      rw [List.getElem?_take] at h3
      split at h3
      · rw [List.getElem?_drop] at h3
        rwa [show off / P.cellsOf e * P.cellsOf e + off % P.cellsOf e = off from Nat.div_add_mod' off (P.cellsOf e)] at h3
      · cases h3
    · rename_i fs ds hu
      obtain ⟨xs, m', rfl, hx, _, hn, hel⟩ := DataW.trod_struct hu ht
      cases hx
      obtain ⟨i, _, h⟩ := Option.bind_eq_some_iff.1 h
      obtain ⟨f, hf, h⟩ := Option.bind_eq_some_iff.1 h
      obtain ⟨d', h1, h2⟩ := Option.bind_eq_some_iff.1 h
      rw [List.getElem?_map] at h1
      obtain ⟨x, hx1, rfl⟩ := Option.map_eq_some_iff.1 h1
      split at h2
      · rename_i hle
        have h3 := atD_cell m m' f.type x.1 _ x.2 _ v ((hel _ f hf).trans hx1) h2
        rw [List.getElem?_take] at h3
        split at h3
        · rw [List.getElem?_drop] at h3
          rwa [show f.offset + (off - f.offset) = off by omega] at h3
        · cases h3
      · cases h2
    · cases h
def seen (o : Option Value) (z : Int) : Bool := match o with | some (.int .i64 x) => x == z | _ => false
theorem seen_some {o : Option Value} {z : Int} (h : seen o z = true) : o = some (.int .i64 z) := by
  unfold seen at h
  split at h
  · rw [eq_of_beq h]
  · cases h
theorem gShapes : Tryd.prog.globalNamed "hypocaust/rec.shapes" = some 0 := by kernel_rfl
theorem tShapes : (Tryd.prog.globals[0]?).map (·.type) = some 74 := by kernel_rfl
theorem datShapes : ((List.range 9).all fun k => (List.range 15).all fun j => seen (atD Tryd.prog 8 74 Rows.laid_hypocaust_rec_shapes (k * 15 + j)) (sh k j)) = true := by kernel_rfl
theorem shp_of_laid {W : World} (h : laidMetH Tryd.prog [("hypocaust/rec.shapes", Rows.laid_hypocaust_rec_shapes)] W) : Shp W := by
  rw [MakeChecks.laidMetH_plain _ _ _ (by kernel_rfl)] at h
  obtain ⟨ps, ⟨g0, t0, cs0, f0, p0, q0, hg0, ht0, hv0, hd0, _, _⟩, _, _⟩ := h
  obtain rfl := Option.some.inj (gShapes.symm.trans hg0)
  obtain rfl := Option.some.inj (tShapes.symm.trans ht0)
  refine ⟨fun k j hk hj => ?_⟩
  have h1 := List.all_eq_true.1 (List.all_eq_true.1 datShapes k (List.mem_range.2 hk)) j (List.mem_range.2 hj)
  have h2 := atD_cell 8 f0 _ _ _ _ _ _ hd0 (seen_some h1)
  rw [World.var?_cell hg0 hv0]
  simpa using h2
/-- The heap that the door's own run leaves meets the condition. -/
theorem door_met (os : Os) (args : Array Value) : laidMetH Tryd.prog [("hypocaust/rec.shapes", Rows.laid_hypocaust_rec_shapes)] ((World.doorLaid Tryd.prog 400 os).forCall (fun _ _ => 0) ⟨#[], args, []⟩).memory :=
  laidMetH_of_parts3 (fuel := 8) (laidMet_of_run' 8 (by kernel_rfl) (by kernel_rfl)) (by kernel_rfl) (by kernel_rfl)
end Go.Proofs.YtmhmlfgikmeejaaDoor
