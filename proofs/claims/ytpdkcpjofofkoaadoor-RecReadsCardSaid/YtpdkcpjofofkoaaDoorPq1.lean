/- What the walks rest on. -/
import Derived.Test.YtpdkcpjofofkoaaDoorPkTidy
import Derived.Test.YtpdkcpjofofkoaaDoorPq0
import Derived.StillTailTactics
import Derived.IntWalk
import Derived.Deep.DeepCutAuto
import Derived.Deep.CutBlock
import Derived.Test.YtpdkcpjofofkoaaDoorRows
import Derived.LaidLaws
import Derived.LaidMore
import Derived.MakeChecks
import Derived.OpenShut
import Derived.Lib.ConvBytes
import Derived.Deep.RegionHeld3

namespace Go.Proofs.YtpdkcpjofofkoaaDoor
open Go.RowKit
set_option linter.unusedVariables false

/-! ### Data -/
structure Lo where
 d : Int
 s : Int
 i : Int
structure Tb where
 hot : Int
 warm : Int
 gap : Int
 add : Int
 top : Int
 half : Int
structure Rc where
 kind : Int
 key : ByteArray
 n : Int
 sid : Int
 sids : List Int
 colour : Int
 locs : List Lo
 t : Tb
def tb0 : Tb := ⟨0, 0, 0, 0, 0, 0⟩
def Tb.l (t : Tb) : List Int := [t.hot, t.warm, t.gap, t.add, t.top, t.half]
/-- A record as a value. -/
abbrev rv (r : Rc) (sv lv : Value) : Value := .agg #[.int .i64 r.kind, .string r.key, .int .i64 r.n, .int .i64 r.sid, sv, .int .i64 r.colour, lv,
 .int .i64 r.t.hot, .int .i64 r.t.warm, .int .i64 r.t.gap, .int .i64 r.t.add, .int .i64 r.t.top, .int .i64 r.t.half]
abbrev lov (l : Lo) : Value := .agg #[.int .i64 l.d, .int .i64 l.s, .int .i64 l.i]
/-! ### Memory -/
/-- A slice of ints that can be read. -/
def RowI (w : World) (a : Option Addr) (zs : List Int) : Prop := zs = [] ∨ ∃ g o, a = some ⟨g, o, none⟩ ∧ g < w.heap.size ∧ ∀ i x, zs[i]? = some x → w.cell? ⟨g, o + i, none⟩ = some (.int .i64 x)
def Lo.cells (l : Lo) : List Value := [.int .i64 l.d, .int .i64 l.s, .int .i64 l.i]
/-- A slice of Locs that can be read. -/
def RowL (w : World) (a : Option Addr) (ls : List Lo) : Prop := ls = [] ∨ ∃ g o, a = some ⟨g, o, none⟩ ∧ g < w.heap.size ∧ ∀ i l, ls[i]? = some l → ∀ j v, l.cells[j]? = some v → w.cell? ⟨g, o + i * 3 + j, none⟩ = some v
theorem RowI.nxt {w w' : World} {a : Option Addr} {zs : List Int} (h : RowI w a zs) (u : Up Nul w w') : RowI w' a zs := by
 rcases h with e | ⟨g, o, e, hg, h⟩
 ·exact .inl e
 ·exact .inr ⟨g, o, e, Nat.lt_of_lt_of_le hg u.size, fun i x hi => (u.cell (p := ⟨g, o + i, none⟩) hg id).trans (h i x hi)⟩
theorem RowL.nxt {w w' : World} {a : Option Addr} {ls : List Lo} (h : RowL w a ls) (u : Up Nul w w') : RowL w' a ls := by
 rcases h with e | ⟨g, o, e, hg, h⟩
 ·exact .inl e
 ·exact .inr ⟨g, o, e, Nat.lt_of_lt_of_le hg u.size, fun i l hi j v hj => (u.cell (p := ⟨g, o + i * 3 + j, none⟩) hg id).trans (h i l hi j v hj)⟩
theorem RowI.nil (w : World) (a : Option Addr) : RowI w a [] := .inl rfl
theorem RowL.nil (w : World) (a : Option Addr) : RowL w a [] := .inl rfl
/-- A slice of bytes that can be read. -/
def RowB (w : World) (a : Option Addr) (zs : List Nat) : Prop := zs = [] ∨ ∃ g o, a = some ⟨g, o, none⟩ ∧ g < w.heap.size ∧ ∀ i (x : Nat), zs[i]? = some x → w.cell? ⟨g, o + i, none⟩ = some (.int .u8 (x : Nat))
theorem RowB.nxt {w w' : World} {a : Option Addr} {zs : List Nat} (h : RowB w a zs) (u : Up Nul w w') : RowB w' a zs := by
 rcases h with e | ⟨g, o, e, hg, h⟩
 ·exact .inl e
 ·exact .inr ⟨g, o, e, Nat.lt_of_lt_of_le hg u.size, fun i x hi => (u.cell (p := ⟨g, o + i, none⟩) hg id).trans (h i x hi)⟩
/-- The rows of a record. -/
structure RH (w : World) (r : Rc) (sa la : Option Addr) : Prop where
 s : RowI w sa r.sids
 l : RowL w la r.locs
 ns : r.sids.length ≤ 100000
 nl : r.locs.length ≤ 100000
theorem RH.nxt {w w' : World} {r : Rc} {sa la : Option Addr} (h : RH w r sa la) (u : Up Nul w w') : RH w' r sa la := ⟨h.s.nxt u, h.l.nxt u, h.ns, h.nl⟩
/-- What each Kind names, as the program has it. -/
def shT : Nat → List Int
 | 1 => [1, 16, 0, 64, 1, 2147483647, 0, 0, 0, 0, 0, 3, 0, 0, 0]
 | 2 => [1, 16, 0, 0, 0, 0, 0, 0, 0, 0, 0, 0, 0, 0, 0]
 | 3 => [1, 16, 0, 0, 1, 2147483647, 0, 2, 0, 0, 0, 6, 0, 0, 0]
 | 4 => [1, 16, 0, 0, 1, 2147483647, 0, 0, 0, 0, 0, 3, 0, 0, 0]
 | 5 => [0, 0, 0, 0, 1, 2147483647, 0, 0, 3, 1, 2147483647, 4, 0, 0, 0]
 | 6 => [0, 0, 0, 0, 1, 2147483647, 0, 0, 3, 0, 2147483647, 0, 2, 0, 0]
 | 7 => [0, 0, 0, 15, 1, 2147483647, 0, 0, 0, 0, 0, 1, 0, 0, 0]
 | 8 => [0, 0, 0, 0, 0, 0, 0, 0, 0, 0, 0, 0, 0, 0, 1000000]
 | _ => [0, 0, 0, 0, 0, 0, 0, 0, 0, 0, 0, 0, 0, 0, 0]
def sh (k j : Nat) : Int := (shT k).getD j 0
abbrev shv (k : Nat) : Value := .agg #[.int .i64 (sh k 0), .int .i64 (sh k 1), .int .i64 (sh k 2), .int .i64 (sh k 3), .int .i64 (sh k 4), .int .i64 (sh k 5), .int .i64 (sh k 6), .int .i64 (sh k 7), .int .i64 (sh k 8),
 .int .i64 (sh k 9), .int .i64 (sh k 10), .int .i64 (sh k 11), .int .i64 (sh k 12), .int .i64 (sh k 13), .int .i64 (sh k 14)]
abbrev tbv (t : Tb) : Value := .agg #[.int .i64 t.hot, .int .i64 t.warm, .int .i64 t.gap, .int .i64 t.add, .int .i64 t.top, .int .i64 t.half]
structure Shp (w : World) : Prop where
 c : ∀ k j, k < 9 → j < 15 → w.cell? ⟨0, k * 15 + j, none⟩ = some (.int .i64 (sh k j))
theorem Shp.lt {w : World} (h : Shp w) : 0 < w.heap.size := lt_of_cell (h.c 0 0 (by omega) (by omega))
theorem Shp.nxt {w w' : World} (h : Shp w) (u : Up Nul w w') : Shp w' := ⟨fun k j hk hj => (u.cell (p := ⟨0, k * 15 + j, none⟩) h.lt id).trans (h.c k j hk hj)⟩
theorem celN {q : Nat} {cs : Array Value} {T : TypeId} {fr : Nat × Nat} {W1 : World} (i : Nat) (v : Value) (h0 : q < W1.heap.size) (hq : W1.heap[q]? = some (.cells cs T fr)) (hv : cs[i]? = some v) : Hid (∀ W, Up Nul W1 W → W.cell? ⟨q, i, none⟩ = some v) := fun W u => by
 have a := (u.block q h0 id).trans hq
 simp only [World.cell?, a]
 exact hv
end Go.Proofs.YtpdkcpjofofkoaaDoor
set_option maxRecDepth 100000
namespace Go.Proofs.YtpdkcpjofofkoaaDoor
open Go.RowKit
/-- The value of one cell of a datum of numbers, arrays and structs. -/
def atD (P : Program) : Nat → TypeId → DataW Unit → Nat → Option Value
 | 0, _, _, _ => none
 | m + 1, t, d, off =>
  match P.underlying t, d with
  | some (.int _), .lit (.int k z) => if off = 0 then some (.int k z) else none
  | some (.array _ e), .agg ds => (ds[off / P.cellsOf e]?).bind fun d' => atD P m e d' (off % P.cellsOf e)
  | some (.struct fs), .agg ds => (fs.toList.findIdx? fun f => decide (off < f.offset + P.cellsOf f.type)).bind fun i => (fs[i]?).bind fun f => (ds[i]?).bind fun d' =>
    if f.offset ≤ off then atD P m f.type d' (off - f.offset) else none
  | _, _ => none
theorem atD_cell {P : Program} {w : World} {enc : TypeId × Value → Unit} {base : Nat} {sp : Nat → Bool} {held : Bool} : ∀ (m fuel : Nat) (t : TypeId) (d : DataW Unit) (cs : List Value) (p : List MemPlace) (off : Nat) (v : Value),
  DataW.trod enc P w base sp held fuel t cs = some (d, p) → atD P m t d off = some v → cs[off]? = some v
 | 0, _, _, _, _, _, _, _, _, h => by cases h
 | m + 1, fuel, t, d, cs, p, off, v, ht, h => by
  unfold atD at h
  split at h
  ·rename_i k' k z hu
   obtain ⟨n, rfl, e, _⟩ := DataW.trod_int hu ht
   cases e
   split at h
   ·rename_i h0; subst h0; simpa using h
   ·cases h
  ·rename_i n e ds hu
   obtain ⟨xs, m', rfl, hx, _, hn, hel⟩ := DataW.trod_array hu ht
   cases hx
   obtain ⟨d', h1, h2⟩ := Option.bind_eq_some_iff.1 h
   rw [List.getElem?_map] at h1
   obtain ⟨x, hx1, rfl⟩ := Option.map_eq_some_iff.1 h1
   have hi : off / P.cellsOf e < n := by
    have := (List.getElem?_eq_some_iff.1 hx1).1
    omega
   have h3 := atD_cell m m' e x.1 _ x.2 _ v ((hel _ hi).trans hx1) h2
   rw [List.getElem?_take] at h3
   split at h3
   ·rw [List.getElem?_drop] at h3
    rwa [show off / P.cellsOf e * P.cellsOf e + off % P.cellsOf e = off from Nat.div_add_mod' off (P.cellsOf e)] at h3
   ·cases h3
  ·rename_i fs ds hu
   obtain ⟨xs, m', rfl, hx, _, hn, hel⟩ := DataW.trod_struct hu ht
   cases hx
   obtain ⟨i, _, h⟩ := Option.bind_eq_some_iff.1 h
   obtain ⟨f, hf, h⟩ := Option.bind_eq_some_iff.1 h
   obtain ⟨d', h1, h2⟩ := Option.bind_eq_some_iff.1 h
   rw [List.getElem?_map] at h1
   obtain ⟨x, hx1, rfl⟩ := Option.map_eq_some_iff.1 h1
   split at h2
   ·rename_i hle
    have h3 := atD_cell m m' f.type x.1 _ x.2 _ v ((hel _ f hf).trans hx1) h2
    rw [List.getElem?_take] at h3
    split at h3
    ·rw [List.getElem?_drop] at h3
     rwa [show f.offset + (off - f.offset) = off by omega] at h3
    ·cases h3
   ·cases h2
  ·cases h
def seen (o : Option Value) (z : Int) : Bool := match o with | some (.int .i64 x) => x == z | _ => false
theorem seen_some {o : Option Value} {z : Int} (h : seen o z = true) : o = some (.int .i64 z) := by
 unfold seen at h
 split at h
 ·rw [eq_of_beq h]
 ·cases h
theorem gShapes : Tryd.prog.globalNamed "hypocaust/rec.shapes" = some 0 := by kernel_rfl
theorem tShapes : (Tryd.prog.globals[0]?).map (·.type) = some 54 := by kernel_rfl
theorem datShapes : ((List.range 9).all fun k => (List.range 15).all fun j => seen (atD Tryd.prog 8 54 Rows.laid_hypocaust_rec_shapes (k * 15 + j)) (sh k j)) = true := by kernel_rfl
theorem shp_of_laid {W : World} (h : laidMetH Tryd.prog [("hypocaust/rec.shapes", Rows.laid_hypocaust_rec_shapes)] W) : Shp W := by
 rw [MakeChecks.laidMetH_plain _ _ _ (by kernel_rfl)] at h
 obtain ⟨ps, ⟨g0, t0, cs0, f0, p0, q0, hg0, ht0, hv0, hd0, _, _⟩, _, _⟩ := h
 obtain rfl := Option.some.inj (gShapes.symm.trans hg0)
 obtain rfl := Option.some.inj (tShapes.symm.trans ht0)
 refine ⟨fun k j hk hj => ?_⟩
 have h1 := List.all_eq_true.1 (List.all_eq_true.1 datShapes k (List.mem_range.2 hk)) j (List.mem_range.2 hj)
 have h2 := atD_cell 8 f0 _ _ _ _ _ _ hd0 (seen_some h1)
 rw [World.var?_cell hg0 hv0]
 simpa using h2
/-- The heap that the door's own run leaves meets the condition. -/
theorem door_met (os : Os) (args : Array Value) : laidMetH Tryd.prog [("hypocaust/rec.shapes", Rows.laid_hypocaust_rec_shapes)] ((World.doorLaid Tryd.prog 400 os).forCall (fun _ _ => 0) ⟨#[], args, []⟩).memory :=
 laidMetH_of_parts3 (fuel := 8) (laidMet_of_run' 8 (by kernel_rfl) (by kernel_rfl)) (by kernel_rfl) (by kernel_rfl)
end Go.Proofs.YtpdkcpjofofkoaaDoor
namespace Go.Proofs.YtpdkcpjofofkoaaDoor
open Go.RowKit
set_option linter.unusedVariables false

def spn (lo hi x : Int) : Bool := decide (lo ≤ x) && decide (x ≤ hi)
theorem holds1_any (p : Nat) (lo hi x : Int) (w : World) (h0 : w.cell? ⟨p, 0, none⟩ = some (.int .i64 lo)) (h1 : w.cell? ⟨p, 1, none⟩ = some (.int .i64 hi)) :
  Calls Tryd.prog 41 #[.int .i64 x, .pointer (some ⟨p, 0, none⟩)] w fun e w' => e = .returned (.bool (! spn lo hi x)) ∧ Up Nul w w' := by
 by_cases a : x < lo
 ·have E : Hid ((! spn lo hi x) = true) := by show _ = _; unfold spn; rw [decide_eq_false (by omega : ¬ lo ≤ x)]; rfl
  rw [E.out]
  clear E
  go_enter Tryd.func41, Tryd.ntmps41
  go_wp2
  go_ret
  exact ⟨rfl, Up.refl _ _⟩
 ·by_cases b : hi < x
  ·have E : Hid ((! spn lo hi x) = true) := by show _ = _; unfold spn; rw [decide_eq_false (by omega : ¬ x ≤ hi)]; simp
   rw [E.out]
   clear E
   go_enter Tryd.func41, Tryd.ntmps41
   go_wp2
   go_ret
   exact ⟨rfl, Up.refl _ _⟩
  ·have E : Hid ((! spn lo hi x) = false) := by show _ = _; unfold spn; rw [decide_eq_true (by omega : lo ≤ x), decide_eq_true (by omega : x ≤ hi)]; rfl
   have F := hid (decide_eq_false b)
   rw [E.out]
   clear E
   go_enter Tryd.func41, Tryd.ntmps41
   go_wp2
   go_ret
   exact ⟨by first | rfl | exact congrArg (fun b => Ending.returned (.bool b)) F.out, Up.refl _ _⟩
end Go.Proofs.YtpdkcpjofofkoaaDoor
namespace Go.Proofs.YtpdkcpjofofkoaaDoor
open Go.RowKit
set_option linter.unusedVariables false


theorem iindex_any (w : World) (a : Option Addr) (c : Nat) (zs : List Int) (h : RowI w a zs) (hl : zs.length ≤ 100000) (p : Nat) (bad : Int → Bool)
  (hc : ∀ x, x ∈ zs → ∀ W, Up Nul w W → Calls Tryd.prog 41 #[.int .i64 x, .pointer (some ⟨p, 0, none⟩)] W fun e w' => e = .returned (.bool (bad x)) ∧ Up Nul W w') :
  Calls Tryd.prog 50 #[.slice a zs.length c, .func (.func 41) #[] #[.pointer (some ⟨p, 0, none⟩)]] w fun e w' => ∃ x : Int, e = .returned (.int .i64 x) ∧ decide (0 ≤ x) = zs.any bad ∧ Up Nul w w' := by
 have HR := hid h
 have HC := hid hc
 have HL := hid hl
 obtain ⟨n, N⟩ : ∃ n, Hid (zs.length = n) := ⟨_, rfl⟩
 rw [N.out] at HL ⊢
 clear h hc hl
 go_enter Tryd.func50, Tryd.ntmps50
 go_wp2_with fail
 go_loopw [8] (fun i wr => ∃ t : Nat, t ≤ n ∧ i = .int .i64 (t : Nat) ∧ (zs.take t).any bad = false ∧ Up Nul w wr) (fun i _ => n - (intOf i).toNat)
 case atStart => exact ⟨0, Nat.zero_le _, rfl, rfl, Up.refl _ _⟩
 case round =>
  obtain ⟨t, ht, rfl, hb, hu⟩ := hrel
  have HU := hid hu
  have HB := hid hb
  have i0 : (0 : Int) ≤ (t : Int) := by omega
  have i9 : (t : Int) ≤ 100000 := by have := HL.out; omega
  by_cases hlt : t < n
  ·have htl : t < zs.length := by rw [N.out]; exact hlt
   obtain ⟨g, o, rfl, hg, hcell⟩ := (HR.out.nxt HU.out).resolve_left (fun e => by rw [e] at htl; cases htl)
   have x1 := hcell t _ (List.getElem?_eq_getElem htl)
   have HCI := hid (HC.out zs[t] (List.getElem_mem htl) _ HU.out)
   have HNX : Hid ((zs.take (t + 1)).any bad = bad zs[t]) := by
    show _ = _
    rw [List.take_succ_eq_append_getElem htl, List.any_append, HB.out]
    simp
   have HANY : Hid (zs.any bad = ((zs.take (t + 1)).any bad || (zs.drop (t + 1)).any bad)) := by
    show _ = _
    rw [← List.any_append, List.take_append_drop]
   generalize zs[t] = x at x1 HCI HNX
   have i2 : (t : Int) < (n : Int) := by omega
   have HT := hid hlt
   cases hbj : bad x with
   | true =>
    rw [hbj] at HCI HNX
    have HD : Hid (zs.any bad = true) := by show _ = _; rw [HANY.out, HNX.out]; rfl
    clear hbj hb hu ht hlt hg hcell htl HNX HANY
    go_wp2_with fail
    refine HCI.out.mono ?_
    rintro e w1 ⟨rfl, u1⟩
    have HU1 := hid (HU.out.trans u1)
    clear u1
    go_wp2
    go_ret
    exact ⟨_, rfl, by rw [HD.out]; simp, HU1.out⟩
   | false =>
    rw [hbj] at HCI HNX
    clear hbj hb hu ht hlt hg hcell htl HANY
    go_wp2_with fail
    refine HCI.out.mono ?_
    rintro e w1 ⟨rfl, u1⟩
    have HU1 := hid (HU.out.trans u1)
    clear u1
    go_wp2_with fail
    go_roundw
    case rel => exact ⟨t + 1, HT.out, by go_num, HNX.out, HU1.out⟩
    case measure => have := HT.out; simp [intOf]; omega
  ·obtain rfl : t = n := by omega
   have HD : Hid (zs.any bad = false) := by
    have := HB.out
    rw [List.take_of_length_le (by rw [N.out]; exact Nat.le_refl _)] at this
    exact this
   clear hb hu ht hlt
   go_wp2
   go_ret
   exact ⟨_, rfl, by rw [HD.out]; rfl, HU.out⟩
theorem icont_any (w : World) (a : Option Addr) (c : Nat) (zs : List Int) (h : RowI w a zs) (hl : zs.length ≤ 100000) (p : Nat) (bad : Int → Bool)
  (hc : ∀ x, x ∈ zs → ∀ W, Up Nul w W → Calls Tryd.prog 41 #[.int .i64 x, .pointer (some ⟨p, 0, none⟩)] W fun e w' => e = .returned (.bool (bad x)) ∧ Up Nul W w') :
  Calls Tryd.prog 42 #[.slice a zs.length c, .func (.func 41) #[] #[.pointer (some ⟨p, 0, none⟩)]] w fun e w' => e = .returned (.bool (zs.any bad)) ∧ Up Nul w w' := by
 have H := hid (iindex_any w a c zs h hl p bad hc)
 clear hc hl h
 generalize zs.any bad = b at H ⊢
 generalize zs.length = n at H ⊢
 go_enter Tryd.func42, Tryd.ntmps42
 go_wp2_with fail
 refine H.out.mono ?_
 rintro e w1 ⟨x, rfl, hx, u⟩
 have HU := hid u
 cases b with
 | true =>
  have h1 : 0 ≤ x := of_decide_eq_true hx
  clear hx u
  go_wp2
  go_ret
  exact ⟨rfl, HU.out⟩
 | false =>
  have h1 : ¬ 0 ≤ x := of_decide_eq_false hx
  have HX := hid hx
  clear hx u
  go_wp2
  go_ret
  exact ⟨congrArg (fun b => Ending.returned (.bool b)) HX.out, HU.out⟩

theorem bindex_any (w : World) (a : Option Addr) (c : Nat) (zs : List Nat) (h : RowB w a zs) (hl : zs.length ≤ 100000) (bad : Nat → Bool)
  (hc : ∀ x, x ∈ zs → ∀ W, Up Nul w W → Calls Tryd.prog 43 #[.int .u8 (x : Nat)] W fun e w' => e = .returned (.bool (bad x)) ∧ Up Nul W w') :
  Calls Tryd.prog 51 #[.slice a zs.length c, .func (.func 43) #[] #[]] w fun e w' => ∃ x : Int, e = .returned (.int .i64 x) ∧ decide (0 ≤ x) = zs.any bad ∧ Up Nul w w' := by
 have HR := hid h
 have HC := hid hc
 have HL := hid hl
 obtain ⟨n, N⟩ : ∃ n, Hid (zs.length = n) := ⟨_, rfl⟩
 rw [N.out] at HL ⊢
 clear h hc hl
 go_enter Tryd.func51, Tryd.ntmps51
 go_wp2_with fail
 go_loopw [8] (fun i wr => ∃ t : Nat, t ≤ n ∧ i = .int .i64 (t : Nat) ∧ (zs.take t).any bad = false ∧ Up Nul w wr) (fun i _ => n - (intOf i).toNat)
 case atStart => exact ⟨0, Nat.zero_le _, rfl, rfl, Up.refl _ _⟩
 case round =>
  obtain ⟨t, ht, rfl, hb, hu⟩ := hrel
  have HU := hid hu
  have HB := hid hb
  have i0 : (0 : Int) ≤ (t : Int) := by omega
  have i9 : (t : Int) ≤ 100000 := by have := HL.out; omega
  by_cases hlt : t < n
  ·have htl : t < zs.length := by rw [N.out]; exact hlt
   obtain ⟨g, o, rfl, hg, hcell⟩ := (HR.out.nxt HU.out).resolve_left (fun e => by rw [e] at htl; cases htl)
   have x1 := hcell t _ (List.getElem?_eq_getElem htl)
   have HCI := hid (HC.out zs[t] (List.getElem_mem htl) _ HU.out)
   have HNX : Hid ((zs.take (t + 1)).any bad = bad zs[t]) := by
    show _ = _
    rw [List.take_succ_eq_append_getElem htl, List.any_append, HB.out]
    simp
   have HANY : Hid (zs.any bad = ((zs.take (t + 1)).any bad || (zs.drop (t + 1)).any bad)) := by
    show _ = _
    rw [← List.any_append, List.take_append_drop]
   generalize zs[t] = x at x1 HCI HNX
   have i2 : (t : Int) < (n : Int) := by omega
   have HT := hid hlt
   cases hbj : bad x with
   | true =>
    rw [hbj] at HCI HNX
    have HD : Hid (zs.any bad = true) := by show _ = _; rw [HANY.out, HNX.out]; rfl
    clear hbj hb hu ht hlt hg hcell htl HNX HANY
    go_wp2_with fail
    refine HCI.out.mono ?_
    rintro e w1 ⟨rfl, u1⟩
    have HU1 := hid (HU.out.trans u1)
    clear u1
    go_wp2
    go_ret
    exact ⟨_, rfl, by rw [HD.out]; simp, HU1.out⟩
   | false =>
    rw [hbj] at HCI HNX
    clear hbj hb hu ht hlt hg hcell htl HANY
    go_wp2_with fail
    refine HCI.out.mono ?_
    rintro e w1 ⟨rfl, u1⟩
    have HU1 := hid (HU.out.trans u1)
    clear u1
    go_wp2_with fail
    go_roundw
    case rel => exact ⟨t + 1, HT.out, by go_num, HNX.out, HU1.out⟩
    case measure => have := HT.out; simp [intOf]; omega
  ·obtain rfl : t = n := by omega
   have HD : Hid (zs.any bad = false) := by
    have := HB.out
    rw [List.take_of_length_le (by rw [N.out]; exact Nat.le_refl _)] at this
    exact this
   clear hb hu ht hlt
   go_wp2
   go_ret
   exact ⟨_, rfl, by rw [HD.out]; rfl, HU.out⟩
theorem bcont_any (w : World) (a : Option Addr) (c : Nat) (zs : List Nat) (h : RowB w a zs) (hl : zs.length ≤ 100000) (bad : Nat → Bool)
  (hc : ∀ x, x ∈ zs → ∀ W, Up Nul w W → Calls Tryd.prog 43 #[.int .u8 (x : Nat)] W fun e w' => e = .returned (.bool (bad x)) ∧ Up Nul W w') :
  Calls Tryd.prog 44 #[.slice a zs.length c, .func (.func 43) #[] #[]] w fun e w' => e = .returned (.bool (zs.any bad)) ∧ Up Nul w w' := by
 have H := hid (bindex_any w a c zs h hl bad hc)
 clear hc hl h
 generalize zs.any bad = b at H ⊢
 generalize zs.length = n at H ⊢
 go_enter Tryd.func44, Tryd.ntmps44
 go_wp2_with fail
 refine H.out.mono ?_
 rintro e w1 ⟨x, rfl, hx, u⟩
 have HU := hid u
 cases b with
 | true =>
  have h1 : 0 ≤ x := of_decide_eq_true hx
  clear hx u
  go_wp2
  go_ret
  exact ⟨rfl, HU.out⟩
 | false =>
  have h1 : ¬ 0 ≤ x := of_decide_eq_false hx
  have HX := hid hx
  clear hx u
  go_wp2
  go_ret
  exact ⟨congrArg (fun b => Ending.returned (.bool b)) HX.out, HU.out⟩

theorem lindex_any (w : World) (a : Option Addr) (c : Nat) (zs : List Lo) (h : RowL w a zs) (hl : zs.length ≤ 100000) (bad : Lo → Bool)
  (hc : ∀ x, x ∈ zs → ∀ W, Up Nul w W → Calls Tryd.prog 24 #[lov x] W fun e w' => e = .returned (.bool (bad x)) ∧ Up Nul W w') :
  Calls Tryd.prog 45 #[.slice a zs.length c, .func (.func 24) #[] #[]] w fun e w' => ∃ x : Int, e = .returned (.int .i64 x) ∧ decide (0 ≤ x) = zs.any bad ∧ Up Nul w w' := by
 have HR := hid h
 have HC := hid hc
 have HL := hid hl
 obtain ⟨n, N⟩ : ∃ n, Hid (zs.length = n) := ⟨_, rfl⟩
 rw [N.out] at HL ⊢
 clear h hc hl
 go_enter Tryd.func45, Tryd.ntmps45
 go_wp2_with fail
 go_loopw [8] (fun i wr => ∃ t : Nat, t ≤ n ∧ i = .int .i64 (t : Nat) ∧ (zs.take t).any bad = false ∧ Up Nul w wr) (fun i _ => n - (intOf i).toNat)
 case atStart => exact ⟨0, Nat.zero_le _, rfl, rfl, Up.refl _ _⟩
 case round =>
  obtain ⟨t, ht, rfl, hb, hu⟩ := hrel
  have HU := hid hu
  have HB := hid hb
  have i0 : (0 : Int) ≤ (t : Int) := by omega
  have i9 : (t : Int) ≤ 100000 := by have := HL.out; omega
  by_cases hlt : t < n
  ·have htl : t < zs.length := by rw [N.out]; exact hlt
   obtain ⟨g, o, rfl, hg, hcell⟩ := (HR.out.nxt HU.out).resolve_left (fun e => by rw [e] at htl; cases htl)
   have x1 := hcell t _ (List.getElem?_eq_getElem htl) 0 _ rfl
   have x2 := hcell t _ (List.getElem?_eq_getElem htl) 1 _ rfl
   have x3 := hcell t _ (List.getElem?_eq_getElem htl) 2 _ rfl
   rw [Nat.add_zero] at x1
   have HCI := hid (HC.out zs[t] (List.getElem_mem htl) _ HU.out)
   have HNX : Hid ((zs.take (t + 1)).any bad = bad zs[t]) := by
    show _ = _
    rw [List.take_succ_eq_append_getElem htl, List.any_append, HB.out]
    simp
   have HANY : Hid (zs.any bad = ((zs.take (t + 1)).any bad || (zs.drop (t + 1)).any bad)) := by
    show _ = _
    rw [← List.any_append, List.take_append_drop]
   generalize zs[t] = x at x1 x2 x3 HCI HNX
   have i2 : (t : Int) < (n : Int) := by omega
   have HT := hid hlt
   cases hbj : bad x with
   | true =>
    rw [hbj] at HCI HNX
    have HD : Hid (zs.any bad = true) := by show _ = _; rw [HANY.out, HNX.out]; rfl
    clear hbj hb hu ht hlt hg hcell htl HNX HANY
    go_wp2_with fail
    refine HCI.out.mono ?_
    rintro e w1 ⟨rfl, u1⟩
    have HU1 := hid (HU.out.trans u1)
    clear u1
    go_wp2
    go_ret
    exact ⟨_, rfl, by rw [HD.out]; simp, HU1.out⟩
   | false =>
    rw [hbj] at HCI HNX
    clear hbj hb hu ht hlt hg hcell htl HANY
    go_wp2_with fail
    refine HCI.out.mono ?_
    rintro e w1 ⟨rfl, u1⟩
    have HU1 := hid (HU.out.trans u1)
    clear u1
    go_wp2_with fail
    go_roundw
    case rel => exact ⟨t + 1, HT.out, by go_num, HNX.out, HU1.out⟩
    case measure => have := HT.out; simp [intOf]; omega
  ·obtain rfl : t = n := by omega
   have HD : Hid (zs.any bad = false) := by
    have := HB.out
    rw [List.take_of_length_le (by rw [N.out]; exact Nat.le_refl _)] at this
    exact this
   clear hb hu ht hlt
   go_wp2
   go_ret
   exact ⟨_, rfl, by rw [HD.out]; rfl, HU.out⟩
theorem lcont_any (w : World) (a : Option Addr) (c : Nat) (zs : List Lo) (h : RowL w a zs) (hl : zs.length ≤ 100000) (bad : Lo → Bool)
  (hc : ∀ x, x ∈ zs → ∀ W, Up Nul w W → Calls Tryd.prog 24 #[lov x] W fun e w' => e = .returned (.bool (bad x)) ∧ Up Nul W w') :
  Calls Tryd.prog 23 #[.slice a zs.length c, .func (.func 24) #[] #[]] w fun e w' => e = .returned (.bool (zs.any bad)) ∧ Up Nul w w' := by
 have H := hid (lindex_any w a c zs h hl bad hc)
 clear hc hl h
 generalize zs.any bad = b at H ⊢
 generalize zs.length = n at H ⊢
 go_enter Tryd.func23, Tryd.ntmps23
 go_wp2_with fail
 refine H.out.mono ?_
 rintro e w1 ⟨x, rfl, hx, u⟩
 have HU := hid u
 cases b with
 | true =>
  have h1 : 0 ≤ x := of_decide_eq_true hx
  clear hx u
  go_wp2
  go_ret
  exact ⟨rfl, HU.out⟩
 | false =>
  have h1 : ¬ 0 ≤ x := of_decide_eq_false hx
  have HX := hid hx
  clear hx u
  go_wp2
  go_ret
  exact ⟨congrArg (fun b => Ending.returned (.bool b)) HX.out, HU.out⟩
end Go.Proofs.YtpdkcpjofofkoaaDoor
namespace Go.Proofs.YtpdkcpjofofkoaaDoor
open Go.RowKit
set_option linter.unusedVariables false

theorem kind_any (k : Int) (w : World) : Calls Tryd.prog 19 #[.int .i64 k] w fun e w' => e = .returned (.bool (spn 1 8 k)) ∧ Up Nul w w' := by
 by_cases a : 1 ≤ k
 ·by_cases b : k ≤ 8
  ·have E : Hid (spn 1 8 k = true) := by show _ = _; unfold spn; rw [decide_eq_true a, decide_eq_true b]; rfl
   rw [E.out]; clear E
   go_enter Tryd.func19, Tryd.ntmps19
   go_wp2
   go_ret
   exact ⟨rfl, Up.refl _ _⟩
  ·have E : Hid (spn 1 8 k = false) := by show _ = _; unfold spn; rw [decide_eq_false b]; simp
   have F := hid (decide_eq_false b)
   rw [E.out]; clear E
   go_enter Tryd.func19, Tryd.ntmps19
   go_wp2
   go_ret
   exact ⟨by first | rfl | exact congrArg (fun b => Ending.returned (.bool b)) F.out, Up.refl _ _⟩
 ·have E : Hid (spn 1 8 k = false) := by show _ = _; unfold spn; rw [decide_eq_false a]; rfl
  have F := hid (decide_eq_false a)
  rw [E.out]; clear E
  go_enter Tryd.func19, Tryd.ntmps19
  go_wp2
  go_ret
  exact ⟨by first | rfl | exact congrArg (fun b => Ending.returned (.bool b)) F.out, Up.refl _ _⟩
theorem named_any (lo hi : Int) (w : World) : Calls Tryd.prog 26 #[.agg #[.int .i64 lo, .int .i64 hi]] w fun e w' => e = .returned (.bool (decide (0 < hi))) ∧ Up Nul w w' := by
 have HU := hid ((Up.refl Nul w).alloc (.cells #[.int .i64 lo, .int .i64 hi] 51))
 go_enter Tryd.func26, Tryd.ntmps26
 go_wp2
 go_ret
 exact ⟨rfl, HU.out⟩
theorem holds_any (lo hi : Int) (a : Option Addr) (c : Nat) (zs : List Int) (w : World) (h : RowI w a zs) (hl : zs.length ≤ 100000) :
  Calls Tryd.prog 20 #[.agg #[.int .i64 lo, .int .i64 hi], .slice a zs.length c] w fun e w' => e = .returned (.bool (zs.all (spn lo hi))) ∧ Up Nul w w' := by
 have HU := hid ((Up.refl Nul w).alloc (.cells #[.int .i64 lo, .int .i64 hi] 51))
 have HC := hid (icont_any (w.alloc (.cells #[.int .i64 lo, .int .i64 hi] 51)) a c zs (h.nxt HU.out) hl w.heap.size (fun x => ! spn lo hi x) (fun x _ W u => holds1_any w.heap.size lo hi x W
  ((u.cell (p := ⟨w.heap.size, 0, none⟩) (by simp) id).trans (World.cell?_alloc_new _ _ _ 0)) ((u.cell (p := ⟨w.heap.size, 1, none⟩) (by simp) id).trans (World.cell?_alloc_new _ _ _ 1))))
 have HE : Hid ((! zs.any fun x => ! spn lo hi x) = zs.all (spn lo hi)) := by
  show _ = _
  rw [List.all_eq_not_any_not]
 clear h hl
 generalize zs.any (fun x => ! spn lo hi x) = b at HC HE
 rw [← HE.out]
 clear HE
 generalize zs.length = n at HC ⊢
 go_enter Tryd.func20, Tryd.ntmps20
 go_wp2_with fail
 refine HC.out.mono ?_
 rintro e w1 ⟨rfl, u⟩
 have U1 := hid (HU.out.trans u)
 clear u
 go_wp2
 go_ret
 exact ⟨by first | rfl | simp, U1.out⟩
def pch (c : Nat) : Bool := decide (33 ≤ c) && decide (c ≤ 126)
theorem plain1_any (x : Nat) (w : World) : Calls Tryd.prog 43 #[.int .u8 (x : Nat)] w fun e w' => e = .returned (.bool (! pch x)) ∧ Up Nul w w' := by
 by_cases a : x < 33
 ·have E : Hid ((! pch x) = true) := by show _ = _; unfold pch; rw [decide_eq_false (by omega : ¬ 33 ≤ x)]; rfl
  have i1 : (x : Int) < 33 := by omega
  rw [E.out]; clear E a
  go_enter Tryd.func43, Tryd.ntmps43
  go_wp2
  go_ret
  exact ⟨rfl, Up.refl _ _⟩
 ·have i1 : ¬ (x : Int) < 33 := by omega
  by_cases b : 126 < x
  ·have E : Hid ((! pch x) = true) := by show _ = _; unfold pch; rw [decide_eq_false (by omega : ¬ x ≤ 126)]; simp
   have i2 : 126 < (x : Int) := by omega
   rw [E.out]; clear E a b
   go_enter Tryd.func43, Tryd.ntmps43
   go_wp2
   go_ret
   exact ⟨rfl, Up.refl _ _⟩
  ·have E : Hid ((! pch x) = false) := by show _ = _; unfold pch; rw [decide_eq_true (by omega : 33 ≤ x), decide_eq_true (by omega : x ≤ 126)]; rfl
   have i2 : ¬ 126 < (x : Int) := by omega
   have F := hid (decide_eq_false i2)
   rw [E.out]; clear E a b
   go_enter Tryd.func43, Tryd.ntmps43
   go_wp2
   go_ret
   exact ⟨by first | rfl | exact congrArg (fun b => Ending.returned (.bool b)) F.out, Up.refl _ _⟩
theorem plain_any (s : ByteArray) (w : World) (hs : s.size ≤ 100000) : Calls Tryd.prog 21 #[.string s] w fun e w' => e = .returned (.bool ((nums s).all pch)) ∧ Up Nul w w' := by
 have hcv := Lib.run_convert_string_bytes (P := Tryd.prog) w 9 32 5 s Tryd.underlying9 Tryd.underlying32 Tryd.underlying5
 have HU : Hid (Up Nul w (Lib.bytesWorld w 5 s)) := ⟨rfl, rfl, rfl, by rw [Lib.bytesWorld_size]; omega, fun k hk _ => Lib.bytesWorld_at_old w _ s k hk⟩
 have HR : RowB (Lib.bytesWorld w 5 s) (some ⟨w.heap.size, 0, none⟩) (nums s) := .inr ⟨w.heap.size, 0, rfl, by rw [Lib.bytesWorld_size]; omega, fun i x hi => by
  have hl : i < s.size := by
   rw [← nums_length]
   rcases Nat.lt_or_ge i (nums s).length with h | h
   ·exact h
   ·rw [List.getElem?_eq_none h] at hi; cases hi
  rw [Nat.zero_add, Lib.bytesWorld_cell w _ s i hl]
  have : x = (s.data.toList.getD i 0).toNat := by
   simp only [nums, List.getElem?_map, Option.map_eq_some_iff] at hi
   obtain ⟨y, hy, rfl⟩ := hi
   simp [List.getD_eq_getElem?_getD, hy]
  rw [this]⟩
 have HC := hid (bcont_any _ _ (grownCap w s.size 0 5) (nums s) HR (by rw [nums_length]; exact hs) (fun x => ! pch x) (fun x _ W u => plain1_any x W))
 rw [nums_length] at HC
 have HE : Hid ((! (nums s).any fun x => ! pch x) = (nums s).all pch) := by
  show _ = _
  rw [List.all_eq_not_any_not]
 clear HR
 generalize (nums s).any (fun x => ! pch x) = b at HC HE
 rw [← HE.out]
 clear HE
 generalize grownCap w s.size 0 5 = gc at HC hcv
 generalize Lib.bytesWorld w 5 s = w1 at HC hcv HU
 go_enter Tryd.func21, Tryd.ntmps21
 go_wp2_with fail
 refine HC.out.mono ?_
 rintro e w2 ⟨rfl, u⟩
 have U1 := hid (HU.out.trans u)
 clear u
 go_wp2
 go_ret
 exact ⟨by first | rfl | simp, U1.out⟩
def lok (l : Lo) : Bool := spn 0 23 l.d && spn 0 63 l.s && spn 1 2147483647 l.i
theorem nowhere_any (l : Lo) (w : World) : Calls Tryd.prog 24 #[lov l] w fun e w' => e = .returned (.bool (! lok l)) ∧ Up Nul w w' := by
 obtain ⟨d, s, i⟩ := l
 have HU := hid ((Up.refl Nul w).alloc (.cells #[.int .i64 d, .int .i64 s, .int .i64 i] 31))
 have key : ∀ b, (! lok ⟨d, s, i⟩) = b → (d < 0 ∧ b = true ∨ ¬ d < 0 ∧ (24 ≤ d ∧ b = true ∨ ¬ 24 ≤ d ∧ (s < 0 ∧ b = true ∨ ¬ s < 0 ∧ (64 ≤ s ∧ b = true ∨ ¬ 64 ≤ s ∧ (i < 1 ∧ b = true ∨ ¬ i < 1 ∧ b = decide (2147483647 < i)))))) := by
  rintro b rfl
  unfold lok spn
  by_cases h1 : d < 0
  ·exact .inl ⟨h1, by simp [h1]⟩
  refine .inr ⟨h1, ?_⟩
  by_cases h2 : 24 ≤ d
  ·exact .inl ⟨h2, by simp; omega⟩
  refine .inr ⟨h2, ?_⟩
  by_cases h3 : s < 0
  ·exact .inl ⟨h3, by simp; omega⟩
  refine .inr ⟨h3, ?_⟩
  by_cases h4 : 64 ≤ s
  ·exact .inl ⟨h4, by simp; omega⟩
  refine .inr ⟨h4, ?_⟩
  by_cases h5 : i < 1
  ·exact .inl ⟨h5, by simp; omega⟩
  refine .inr ⟨h5, ?_⟩
  by_cases h6 : 2147483647 < i
  ·simp [h6]
  ·have a1 : 0 ≤ d := by omega
   have a2 : d ≤ 23 := by omega
   have a3 : 0 ≤ s := by omega
   have a4 : s ≤ 63 := by omega
   have a5 : 1 ≤ i := by omega
   have a6 : i ≤ 2147483647 := by omega
   simp [h6, a1, a2, a3, a4, a5, a6]
 show Calls Tryd.prog 24 #[.agg #[.int .i64 d, .int .i64 s, .int .i64 i]] w _
 generalize hb : (! lok ⟨d, s, i⟩) = b
 have key := key b hb
 clear hb
 rcases key with ⟨h1, rfl⟩ | ⟨h1, ⟨h2, rfl⟩ | ⟨h2, ⟨h3, rfl⟩ | ⟨h3, ⟨h4, rfl⟩ | ⟨h4, ⟨h5, rfl⟩ | ⟨h5, rfl⟩⟩⟩⟩⟩
 all_goals
  go_enter Tryd.func24, Tryd.ntmps24
  go_wp2
  go_ret
  exact ⟨by first | rfl | simp, HU.out⟩
theorem table_any (t : Tb) (w : World) : Calls Tryd.prog 25 #[tbv t] w fun e w' => ∃ g, e = .returned (.slice (some ⟨g, 0, none⟩) 6 6) ∧ RowI w' (some ⟨g, 0, none⟩) t.l ∧ Up Nul w w' := by
 obtain ⟨a, b, c, d, e, f⟩ := t
 have HU := hid ((Up.refl Nul w).alloc (.cells #[.int .i64 a, .int .i64 b, .int .i64 c, .int .i64 d, .int .i64 e, .int .i64 f] 25))
 have HR : Hid (∀ W : World, ∀ g, g = W.heap.size → RowI (W.alloc (.cells #[.int .i64 a, .int .i64 b, .int .i64 c, .int .i64 d, .int .i64 e, .int .i64 f] 3)) (some ⟨g, 0, none⟩) (Tb.l ⟨a, b, c, d, e, f⟩)) := fun W g hg => by
  subst hg
  refine .inr ⟨W.heap.size, 0, rfl, by simp, fun i x hi => ?_⟩
  rw [Nat.zero_add]
  match i, hi with
  | 0, hi => cases hi; exact World.cell?_alloc_new _ _ _ 0
  | 1, hi => cases hi; exact World.cell?_alloc_new _ _ _ 1
  | 2, hi => cases hi; exact World.cell?_alloc_new _ _ _ 2
  | 3, hi => cases hi; exact World.cell?_alloc_new _ _ _ 3
  | 4, hi => cases hi; exact World.cell?_alloc_new _ _ _ 4
  | 5, hi => cases hi; exact World.cell?_alloc_new _ _ _ 5
 show Calls Tryd.prog 25 #[.agg #[.int .i64 a, .int .i64 b, .int .i64 c, .int .i64 d, .int .i64 e, .int .i64 f]] w _
 go_enter Tryd.func25, Tryd.ntmps25
 go_wp2
 go_ret
 exact ⟨_, rfl, HR.out _ _ (by simp), HU.out.alloc _⟩
/-- How many of them are not 0. -/
def nz (zs : List Int) : Nat := (zs.filter fun z => decide (z ≠ 0)).length
theorem nz_le (zs : List Int) : nz zs ≤ zs.length := List.length_filter_le _ _
end Go.Proofs.YtpdkcpjofofkoaaDoor
namespace Go.Proofs.YtpdkcpjofofkoaaDoor
open Go.RowKit
set_option linter.unusedVariables false

theorem nz_next {zs : List Int} {t : Nat} (h : t < zs.length) : nz (zs.take (t + 1)) = nz (zs.take t) + if zs[t] ≠ 0 then 1 else 0 := by
 unfold nz
 rw [List.take_succ_eq_append_getElem h, List.filter_append, List.length_append]
 congr 1
 by_cases e : zs[t] = 0
 ·simp [e]
 ·simp [e]
theorem locsOf_any (k : Nat) (lo le : Int) (a : Option Addr) (c : Nat) (zs : List Int) (w : World) (h : RowI w a zs) (hl : zs.length ≤ 3) (e1 : sh k 11 = lo) (e2 : sh k 12 = le) (b1 : 0 ≤ lo) (b2 : lo ≤ 10) (b3 : 0 ≤ le) (b4 : le ≤ 2) :
  Calls Tryd.prog 22 #[shv k, .slice a zs.length c] w fun e w' => e = .returned (.int .i64 (lo + le * (nz zs : Nat))) ∧ Up Nul w w' := by
 have HR := hid h
 have HL := hid hl
 obtain ⟨n, N⟩ : ∃ n, Hid (zs.length = n) := ⟨_, rfl⟩
 rw [N.out] at HL ⊢
 show Calls Tryd.prog 22 #[.agg #[.int .i64 (sh k 0), .int .i64 (sh k 1), .int .i64 (sh k 2), .int .i64 (sh k 3), .int .i64 (sh k 4), .int .i64 (sh k 5), .int .i64 (sh k 6), .int .i64 (sh k 7), .int .i64 (sh k 8),
  .int .i64 (sh k 9), .int .i64 (sh k 10), .int .i64 (sh k 11), .int .i64 (sh k 12), .int .i64 (sh k 13), .int .i64 (sh k 14)], .slice a n c] w _
 rw [e1, e2]
 have HB := hid (And.intro b1 (And.intro b2 (And.intro b3 b4)))
 generalize sh k 0 = c0
 generalize sh k 1 = c1
 generalize sh k 2 = c2
 generalize sh k 3 = c3
 generalize sh k 4 = c4
 generalize sh k 5 = c5
 generalize sh k 6 = c6
 generalize sh k 7 = c7
 generalize sh k 8 = c8
 generalize sh k 9 = c9
 generalize sh k 10 = c10
 generalize sh k 13 = c13
 generalize sh k 14 = c14
 obtain ⟨W, hW⟩ : ∃ W, W = w.alloc (.cells #[.int .i64 c0, .int .i64 c1, .int .i64 c2, .int .i64 c3, .int .i64 c4, .int .i64 c5, .int .i64 c6, .int .i64 c7, .int .i64 c8, .int .i64 c9, .int .i64 c10, .int .i64 lo, .int .i64 le, .int .i64 c13, .int .i64 c14] 53) := ⟨_, rfl⟩
 have HU : Hid (Up Nul w W) := by show Up _ _ _; rw [hW]; exact (Up.refl Nul w).alloc _
 have x11 : W.cell? ⟨w.heap.size, 11, none⟩ = some (.int .i64 lo) := by rw [hW]; exact World.cell?_alloc_new _ _ _ 11
 have x12 : W.cell? ⟨w.heap.size, 12, none⟩ = some (.int .i64 le) := by rw [hW]; exact World.cell?_alloc_new _ _ _ 12
 clear h hl e1 e2 b1 b2 b3 b4
 go_enter Tryd.func22, Tryd.ntmps22
 go_wp2_with fail
 rw [← hW]
 clear hW
 generalize w.heap.size = p at x11 x12 ⊢
 go_loop [5, 7, 12] (fun s _ i => ∃ t : Nat, t ≤ n ∧ i = .int .i64 (t : Nat) ∧ s = .int .i64 (lo + le * (nz (zs.take t) : Nat))) (fun _ _ i => n - (intOf i).toNat)
 case atStart => exact ⟨0, Nat.zero_le _, rfl, by simp [nz]⟩
 case round =>
  obtain ⟨t, ht, rfl, rfl⟩ := hrel
  have i0 : (0 : Int) ≤ (t : Int) := by omega
  have i9 : (t : Int) ≤ 3 := by have := HL.out; omega
  by_cases hlt : t < n
  ·have htl : t < zs.length := by rw [N.out]; exact hlt
   obtain ⟨g, o, rfl, hg, hcell⟩ := (HR.out.nxt HU.out).resolve_left (fun e => by rw [e] at htl; cases htl)
   have x1 := hcell t _ (List.getElem?_eq_getElem htl)
   have HN := hid (nz_next htl)
   have hz : nz (zs.take t) ≤ 3 := Nat.le_trans (nz_le _) (by rw [List.length_take]; omega)
   generalize zs[t] = x at x1 HN
   have i2 : (t : Int) < (n : Int) := by omega
   have HT := hid hlt
   obtain ⟨m, M⟩ : ∃ m, Hid (nz (zs.take t) = m) := ⟨_, rfl⟩
   rw [M.out] at HN hz ⊢
   have HM : Hid (∃ q : Nat, q ≤ 6 ∧ le * (m : Int) = (q : Int) ∧ le * ((m + 1 : Nat) : Int) = (q : Int) + le) := by
    obtain ⟨_, _, h3, h4⟩ := HB.out
    obtain ⟨l, rfl⟩ := Int.eq_ofNat_of_zero_le h3
    refine ⟨l * m, ?_, by simp, by rw [Int.natCast_add, Int.mul_add]; simp⟩
    have : l ≤ 2 := by omega
    calc l * m ≤ 2 * 3 := Nat.mul_le_mul this hz
     _ = 6 := rfl
   obtain ⟨q, hq6, hq1, hq2⟩ := HM.out
   rw [hq1]
   have HQ := hid (And.intro hq1 hq2)
   clear HM hq1 hq2 hz hg hcell htl hlt ht
   by_cases e : x = 0
   ·subst e
    have HN2 : Hid (nz (zs.take (t + 1)) = m) := by show _ = _; rw [HN.out]; simp
    clear HN
    go_wp2_with fail
    go_round
    case rel => exact ⟨t + 1, HT.out, by go_num, by rw [HN2.out, HQ.out.1]⟩
    case measure => have := HT.out; simp [intOf]; omega
   ·have HN2 : Hid (nz (zs.take (t + 1)) = m + 1) := by show _ = _; rw [HN.out, if_pos e]
    clear HN
    have i3 : IntKind.i64.wrap (lo + (q : Int) + le) = lo + (q : Int) + le := by have := HB.out; exact IntWalk.i64_in _ (by omega)
    have i4 : wrap64 (lo + (q : Int) + le) = lo + (q : Int) + le := by rw [← IntWalk.i64_left]; exact i3
    have E := hid e
    have hne : (x == 0) = false := by simpa using e
    go_wp2_with fail
    go_round
    case rel => exact ⟨t + 1, HT.out, by go_num, by rw [HN2.out, HQ.out.2, Int.add_assoc]⟩
    case measure => have := HT.out; simp [intOf]; omega
  ·obtain rfl : t = n := by omega
   have HD : Hid (nz (zs.take t) = nz zs) := by show _ = _; rw [List.take_of_length_le (by rw [N.out]; exact Nat.le_refl _)]
   clear ht hlt
   go_wp2
   go_ret
   exact ⟨by rw [HD.out]; rfl, HU.out⟩
end Go.Proofs.YtpdkcpjofofkoaaDoor
namespace Go.Proofs.YtpdkcpjofofkoaaDoor
open Go.RowKit
set_option linter.unusedVariables false

/-- Four bytes, the highest first. -/
def w4 (v : Nat) : List Nat := [v / 16777216 % 256, v / 65536 % 256, v / 256 % 256, v % 256]
theorem w4_small (v : Nat) : ∀ x ∈ w4 v, x < 256 := by
 intro x hx
 simp only [w4, List.mem_cons, List.not_mem_nil, or_false] at hx
 omega
def wds (zs : List Int) : List Nat := zs.flatMap fun x => w4 x.toNat
theorem wds_length (zs : List Int) : (wds zs).length = 4 * zs.length := by
 induction zs with
 | nil => rfl
 | cons x l ih => simp only [wds, List.flatMap_cons, List.length_append, List.length_cons] at ih ⊢; rw [ih]; simp [w4]; omega
theorem wds_next {zs : List Int} {t : Nat} (h : t < zs.length) : wds (zs.take (t + 1)) = wds (zs.take t) ++ w4 zs[t].toNat := by
 unfold wds
 rw [List.take_succ_eq_append_getElem h, List.flatMap_append]
 simp
theorem bys_four (a b c d : Nat) : bys [a, b, c, d] = #[.int .u8 (a : Nat), .int .u8 (b : Nat), .int .u8 (c : Nat), .int .u8 (d : Nat)] := rfl
theorem SlN.ofBlk {w : World} {q : Nat} {z : List Nat} (h : Blk w q z) (hl : z.length ≤ 1000000) : SlN w (some ⟨q, 0, none⟩) z.length z := ⟨rfl, .inr ⟨q, 0, rfl, h.lt, by
 have := h.row 0 z.length (by omega)
 rwa [List.drop_zero, List.take_length] at this⟩, by omega⟩
theorem Up.own {W0 w w' : World} {v : Value} {z : List Nat} (u : Up Nul W0 w) (h : OwnB W0.heap.size w v z) (g : w.grownBy w' v.ownBlock) : Up Nul W0 w' := u.grown g h.base
set_option maxHeartbeats 1000000 in
theorem words_any (W0 w : World) (v : Value) (z : List Nat) (HO : OwnB W0.heap.size w v z) (U : Up Nul W0 w) (a : Option Addr) (c : Nat) (nums : List Int) (hn : RowI w a nums) (hd : nums ≠ [] → ∀ x, a = some x → v.ownBlock ≠ some x.block)
  (hl : nums.length ≤ 100) (hz : z.length ≤ 1000) (hr : ∀ x ∈ nums, 0 ≤ x ∧ x ≤ 4294967295) :
  Calls Tryd.prog 27 #[v, .slice a nums.length c] w fun e w' => ∃ v', e = .returned v' ∧ OwnB W0.heap.size w' v' (z ++ wds nums) ∧ Up Nul W0 w' := by
 have HO := hid HO
 have HU := hid U
 have HR := hid hn
 have HD := hid hd
 have HL := hid hl
 have HZ := hid hz
 have HRG := hid hr
 obtain ⟨n, N⟩ : ∃ n, Hid (nums.length = n) := ⟨_, rfl⟩
 rw [N.out] at HL ⊢
 obtain ⟨va, vl, vc, rfl⟩ := HO.out.shape
 clear U hn hd hl hz hr
 go_enter Tryd.func27, Tryd.ntmps27
 go_wp2_with fail
 go_loopw [0, 6, 9] (fun bv _ i wr => ∃ t : Nat, t ≤ n ∧ i = .int .i64 (t : Nat) ∧ OwnB W0.heap.size wr bv (z ++ wds (nums.take t)) ∧ Up Nul W0 wr ∧ RowI wr a nums ∧ (nums ≠ [] → ∀ x, a = some x → bv.ownBlock ≠ some x.block)) (fun _ _ i _ => n - (intOf i).toNat)
 case atStart => exact ⟨0, Nat.zero_le _, rfl, by simpa [wds] using HO.out, HU.out, HR.out, HD.out⟩
 case round =>
  obtain ⟨t, ht, rfl, ho, hu, hrow, hdd⟩ := hrel
  have HO1 := hid ho
  have HU1 := hid hu
  have HR1 := hid hrow
  have HD1 := hid hdd
  clear hu hrow hdd HO HU HR HD
  have i0 : (0 : Int) ≤ (t : Int) := by omega
  have i9 : (t : Int) ≤ 100 := by have := HL.out; omega
  obtain ⟨ba, bl, bc, rfl⟩ := ho.shape
  by_cases hlt : t < n
  ·have htl : t < nums.length := by rw [N.out]; exact hlt
   obtain ⟨g, o, rfl, hg, hcell⟩ := HR1.out.resolve_left (fun e => by rw [e] at htl; cases htl)
   have x1 := hcell t _ (List.getElem?_eq_getElem htl)
   have HNE : Hid (nums ≠ []) := fun e => by rw [e] at htl; cases htl
   have HN := hid (wds_next htl)
   have hx := HRG.out _ (List.getElem_mem htl)
   generalize nums[t] = x at x1 HN hx
   obtain ⟨y, rfl⟩ := Int.eq_ofNat_of_zero_le hx.1
   rw [Int.toNat_natCast] at HN
   have hy : y ≤ 4294967295 := by omega
   have i2 : (t : Int) < (n : Int) := by omega
   have HT := hid hlt
   have HLN : Hid ((z ++ wds (nums.take t)).length + 4 ≤ 1000000) := by
    show _ ≤ _
    rw [List.length_append, wds_length, List.length_take]
    have := HZ.out
    have := HL.out
    omega
   have HB : Hid (Blk (wr.alloc (.cells (bys (w4 y)) 5)) wr.heap.size (w4 y)) := Blk.new wr _ (w4_small y)
   obtain ⟨v', w', hrun, h1, h2, h3⟩ := run_append_slw (wr.alloc (.cells (bys (w4 y)) 5)) 32 W0.heap.size _ _ (ho.alloc _) (some ⟨wr.heap.size, 0, none⟩) 4 4 (w4 y) (SlN.ofBlk HB.out (by show 4 ≤ 1000000; omega)) HLN.out (Nat.le_trans HU1.out.size (by simp))
   have h4 : bys (w4 y) = #[.int .u8 ((y : Int) / 16777216), .int .u8 ((y : Int) / 65536 % 256), .int .u8 ((y : Int) / 256 % 256), .int .u8 ((y : Int) % 256)] := by
    have e : y / 16777216 % 256 = y / 16777216 := Nat.mod_eq_of_lt (by omega)
    show #[Value.int .u8 ((y / 16777216 % 256 : Nat) : Int), .int .u8 ((y / 65536 % 256 : Nat) : Int), .int .u8 ((y / 256 % 256 : Nat) : Int), .int .u8 ((y % 256 : Nat) : Int)] = _
    rw [e]
    simp
   rw [h4] at hrun h2
   have HX1 : Hid (OwnB W0.heap.size w' v' (z ++ wds (nums.take (t + 1)))) := by show OwnB _ _ _ _; rw [HN.out, ← List.append_assoc]; exact h1
   have HX2 : Hid (Up Nul W0 w') := (HU1.out.alloc _).grown h2 ho.base
   have HX3 : Hid (RowI w' (some ⟨g, o, none⟩) nums) := .inr ⟨g, o, rfl, Nat.lt_of_lt_of_le hg (Nat.le_trans (by simp) h2.size), fun i x hi => by
    rw [← hcell i x hi]
    have hgo : (Value.slice ba bl bc).ownBlock ≠ some g := HD1.out HNE.out _ rfl
    have e1 := h2.block g (by simp; omega) (fun e => hgo e.symm)
    rw [World.cell?_of_block (w := wr.alloc _) e1, World.cell?_alloc_lt _ _ _ hg]⟩
   have HX4 : Hid (nums ≠ [] → ∀ x, some (⟨g, o, none⟩ : Addr) = some x → v'.ownBlock ≠ some x.block) := fun _ x hx e => by
    cases hx
    rcases h3 with h3 | h3
    ·rw [h3] at e; exact HD1.out HNE.out _ rfl e
    ·rw [h3] at e
     simp at e
     omega
   clear h1 h2 h3 h4 hx ho hcell hg htl hlt ht HN HB
   go_wp2_with (first
    | (at_builtin; refine wpList_append_eqv rfl (.tmp 13) (.tmp 25) 32 rfl _ _ v' rfl rfl hrun ?_)
    | fail)
   go_roundw
   case rel => exact ⟨t + 1, HT.out, by go_num, HX1.out, HX2.out, HX3.out, HX4.out⟩
   case measure => have := HT.out; simp [intOf]; omega
  ·obtain rfl : t = n := by omega
   have HD2 : Hid (OwnB W0.heap.size wr (.slice ba bl bc) (z ++ wds nums)) := by
    show OwnB _ _ _ _
    rw [List.take_of_length_le (by rw [N.out]; exact Nat.le_refl _)] at ho
    exact ho
   clear ht hlt ho
   go_wp2
   go_ret
   exact ⟨_, rfl, HD2.out, HU1.out⟩
end Go.Proofs.YtpdkcpjofofkoaaDoor
namespace Go.Proofs.YtpdkcpjofofkoaaDoor
open Go.RowKit
set_option linter.unusedVariables false

def kn (r : Rc) : Nat := r.kind.toNat
/-- Which records may be. -/
def okR (r : Rc) : Bool :=
 spn 1 8 r.kind && ([((r.key.size : Nat) : Int)].all (spn (sh (kn r) 0) (sh (kn r) 1)) && (nums r.key).all pch && [r.n].all (spn (sh (kn r) 2) (sh (kn r) 3)) && [r.sid].all (spn (sh (kn r) 4) (sh (kn r) 5)) && [r.colour].all (spn (sh (kn r) 6) (sh (kn r) 7)) &&
  (((r.sids.length : Nat) : Int) == sh (kn r) 8) && r.sids.all (spn (sh (kn r) 9) (sh (kn r) 10)) && (((r.locs.length : Nat) : Int) == sh (kn r) 11 + sh (kn r) 12 * ((nz r.sids : Nat) : Int)) && r.locs.all lok && r.t.l.all (spn (sh (kn r) 13) (sh (kn r) 14)))
theorem spn_iff {lo hi x : Int} : spn lo hi x = true ↔ lo ≤ x ∧ x ≤ hi := by simp [spn]
/-- What is known of a record that may be. -/
structure OkF (r : Rc) : Prop where
 k1 : 1 ≤ kn r
 k8 : kn r ≤ 8
 kk : r.kind = (kn r : Int)
 key : sh (kn r) 0 ≤ (r.key.size : Nat) ∧ ((r.key.size : Nat) : Int) ≤ sh (kn r) 1
 pl : ∀ c ∈ nums r.key, 33 ≤ c ∧ c ≤ 126
 n : sh (kn r) 2 ≤ r.n ∧ r.n ≤ sh (kn r) 3
 sid : sh (kn r) 4 ≤ r.sid ∧ r.sid ≤ sh (kn r) 5
 co : sh (kn r) 6 ≤ r.colour ∧ r.colour ≤ sh (kn r) 7
 ns : ((r.sids.length : Nat) : Int) = sh (kn r) 8
 sids : ∀ x ∈ r.sids, sh (kn r) 9 ≤ x ∧ x ≤ sh (kn r) 10
 nl : ((r.locs.length : Nat) : Int) = sh (kn r) 11 + sh (kn r) 12 * ((nz r.sids : Nat) : Int)
 locs : ∀ l ∈ r.locs, (0 ≤ l.d ∧ l.d ≤ 23) ∧ (0 ≤ l.s ∧ l.s ≤ 63) ∧ 1 ≤ l.i ∧ l.i ≤ 2147483647
 t : ∀ x ∈ r.t.l, sh (kn r) 13 ≤ x ∧ x ≤ sh (kn r) 14
theorem okR_iff {r : Rc} : okR r = true ↔ OkF r := by
 constructor
 ·intro h
  unfold okR at h
  simp only [Bool.and_eq_true, spn_iff, List.all_cons, List.all_nil, Bool.and_true, List.all_eq_true, beq_iff_eq, pch, decide_eq_true_eq, lok] at h
  obtain ⟨⟨h1, h2⟩, ⟨⟨⟨⟨⟨⟨⟨⟨⟨a1, a2⟩, a3⟩, a4⟩, a5⟩, a6⟩, a7⟩, a8⟩, a9⟩, a10⟩⟩ := h
  have hk : r.kind = (kn r : Int) := by unfold kn; omega
  exact ⟨by omega, by omega, hk, a1, a2, a3, a4, a5, a6, a7, a8, fun l hl => ⟨(a9 l hl).1.1, (a9 l hl).1.2, (a9 l hl).2⟩, a10⟩
 ·intro h
  unfold okR
  simp only [Bool.and_eq_true, spn_iff, List.all_cons, List.all_nil, Bool.and_true, List.all_eq_true, beq_iff_eq, pch, decide_eq_true_eq, lok]
  have := h.kk
  have := h.k1
  have := h.k8
  exact ⟨⟨by omega, by omega⟩, ⟨⟨⟨⟨⟨⟨⟨⟨⟨h.key, h.pl⟩, h.n⟩, h.sid⟩, h.co⟩, h.ns⟩, h.sids⟩, h.nl⟩, fun l hl => ⟨⟨(h.locs l hl).1, (h.locs l hl).2.1⟩, (h.locs l hl).2.2⟩⟩, h.t⟩⟩
theorem sh_bounds : ∀ k, k < 9 → (0 ≤ sh k 8 ∧ sh k 8 ≤ 3) ∧ (0 ≤ sh k 11 ∧ sh k 11 ≤ 6) ∧ (0 ≤ sh k 12 ∧ sh k 12 ≤ 2) ∧ (0 ≤ sh k 0 ∧ sh k 1 ≤ 16) ∧ (0 ≤ sh k 2 ∧ sh k 3 ≤ 64) ∧ (0 ≤ sh k 4 ∧ sh k 5 ≤ 2147483647) ∧ (0 ≤ sh k 6 ∧ sh k 7 ≤ 2) ∧ (0 ≤ sh k 9 ∧ sh k 10 ≤ 2147483647) ∧ (0 ≤ sh k 13 ∧ sh k 14 ≤ 1000000) := by
 intro k hk
 match k, hk with
 | 0, _ => decide
 | 1, _ => decide
 | 2, _ => decide
 | 3, _ => decide
 | 4, _ => decide
 | 5, _ => decide
 | 6, _ => decide
 | 7, _ => decide
 | 8, _ => decide
/-- The bytes of a record. -/
def opt (h : Int) (l : List Nat) : List Nat := if 0 < h then l else []
def loB (l : Lo) : List Nat := [l.d.toNat, l.s.toNat] ++ w4 l.i.toNat
def los (ls : List Lo) : List Nat := ls.flatMap loB
def encR (r : Rc) : List Nat := [r.kind.toNat] ++ opt (sh (kn r) 1) (r.key.size :: nums r.key) ++ opt (sh (kn r) 3) [r.n.toNat] ++ opt (sh (kn r) 5) (wds [r.sid]) ++ opt (sh (kn r) 7) [r.colour.toNat] ++ wds r.sids ++ opt (sh (kn r) 12) [r.locs.length] ++ los r.locs ++ opt (sh (kn r) 14) (wds r.t.l)
theorem los_next {ls : List Lo} {t : Nat} (h : t < ls.length) : los (ls.take (t + 1)) = los (ls.take t) ++ loB ls[t] := by
 unfold los
 rw [List.take_succ_eq_append_getElem h, List.flatMap_append]
 simp
theorem los_length (ls : List Lo) : (los ls).length = 6 * ls.length := by
 induction ls with
 | nil => rfl
 | cons x l ih => simp only [los, List.flatMap_cons, List.length_append, List.length_cons] at ih ⊢; rw [ih]; simp [loB, w4]; omega
theorem opt_le (h : Int) (l : List Nat) : (opt h l).length ≤ l.length := by unfold opt; split <;> simp
theorem wds_small (zs : List Int) : ∀ x ∈ wds zs, x < 256 := by
 intro x hx
 unfold wds at hx
 obtain ⟨y, _, hy⟩ := List.mem_flatMap.1 hx
 exact w4_small _ x hy
theorem opt_small {h : Int} {l : List Nat} (hl : ∀ x ∈ l, x < 256) : ∀ x ∈ opt h l, x < 256 := by
 intro x hx
 unfold opt at hx
 split at hx
 ·exact hl x hx
 ·cases hx
section
variable {r : Rc}
theorem OkF.nsl (h : OkF r) : r.sids.length ≤ 3 := by have := (sh_bounds (kn r) (by have := h.k8; omega)).1.2; have := h.ns; omega
theorem OkF.nll (h : OkF r) : r.locs.length ≤ 12 := by
 obtain ⟨_, ⟨_, b2⟩, ⟨b3, b4⟩, _⟩ := sh_bounds (kn r) (by have := h.k8; omega)
 have h1 := h.nl
 have h2 : nz r.sids ≤ 3 := Nat.le_trans (nz_le _) h.nsl
 obtain ⟨l, hl⟩ := Int.eq_ofNat_of_zero_le b3
 rw [hl] at h1 b4
 have : l * nz r.sids ≤ 2 * 3 := Nat.mul_le_mul (by omega) h2
 have e : ((l : Nat) : Int) * ((nz r.sids : Nat) : Int) = ((l * nz r.sids : Nat) : Int) := by simp
 rw [e] at h1
 omega
theorem OkF.keyl (h : OkF r) : r.key.size ≤ 16 := by have := h.key.2; have := (sh_bounds (kn r) (by have := h.k8; omega)).2.2.2.1.2; omega
theorem OkF.len (h : OkF r) : (encR r).length ≤ 250 := by
 have h1 := opt_le (sh (kn r) 1) (r.key.size :: nums r.key)
 have h2 := opt_le (sh (kn r) 3) [r.n.toNat]
 have h3 := opt_le (sh (kn r) 5) (wds [r.sid])
 have h4 := opt_le (sh (kn r) 7) [r.colour.toNat]
 have h5 := opt_le (sh (kn r) 12) [r.locs.length]
 have h6 := opt_le (sh (kn r) 14) (wds r.t.l)
 have h7 := wds_length r.sids
 have h8 := los_length r.locs
 have h9 : (wds r.t.l).length = 24 := wds_length _
 have h10 : (wds [r.sid]).length = 4 := wds_length _
 have := h.keyl
 have := h.nsl
 have := h.nll
 unfold encR
 simp only [List.length_append, List.length_cons, List.length_nil, nums_length] at *
 omega
theorem OkF.small (h : OkF r) : ∀ x ∈ encR r, x < 256 := by
 have b := sh_bounds (kn r) (by have := h.k8; omega)
 have hk := h.kk
 have hk8 := h.k8
 have hn := h.n
 have hc := h.co
 intro x hx
 unfold encR at hx
 simp only [List.mem_append] at hx
 rcases hx with (((((((hx | hx) | hx) | hx) | hx) | hx) | hx) | hx) | hx
 ·simp only [List.mem_cons, List.not_mem_nil, or_false] at hx; omega
 ·refine opt_small ?_ x hx
  intro y hy
  rcases List.mem_cons.1 hy with rfl | hy
  ·have := h.keyl; omega
  ·have := h.pl y hy; omega
 ·refine opt_small ?_ x hx
  intro y hy
  simp only [List.mem_cons, List.not_mem_nil, or_false] at hy; omega
 ·exact opt_small (wds_small _) x hx
 ·refine opt_small ?_ x hx
  intro y hy
  simp only [List.mem_cons, List.not_mem_nil, or_false] at hy; omega
 ·exact wds_small _ x hx
 ·refine opt_small ?_ x hx
  intro y hy
  simp only [List.mem_cons, List.not_mem_nil, or_false] at hy; have := h.nll; omega
 ·unfold los at hx
  obtain ⟨l, hl, hx⟩ := List.mem_flatMap.1 hx
  have := h.locs l hl
  unfold loB at hx
  rcases List.mem_append.1 hx with hx | hx
  ·simp only [List.mem_cons, List.not_mem_nil, or_false] at hx; omega
  ·exact w4_small _ x hx
 ·exact opt_small (wds_small _) x hx
end
end Go.Proofs.YtpdkcpjofofkoaaDoor
