/- What the walks rest on. -/
import Derived.Test.YtepggchnhgpcnaaGreatDoorPkTidy
import Derived.Test.YtepggchnhgpcnaaGreatDoorPz0
import Derived.StillTailTactics
import Derived.IntWalk
import Derived.Deep.DeepCutAuto
import Derived.Deep.CutBlock
import Derived.Test.YtepggchnhgpcnaaGreatDoorRows
import Derived.LaidLaws
import Derived.LaidMore
import Derived.MakeChecks
import Derived.OpenShut
import Derived.Lib.ConvBytes
import Derived.Deep.RegionHeld3
import Derived.Deep.RegionLaw
import Derived.Maps.OwnSet
import Derived.Maps.Ext

namespace Go.Proofs.YtepggchnhgpcnaaGreatDoor
open Go.RowKit
set_option linter.unusedVariables false

structure Lo where
 d : Int
 s : Int
 i : Int
structure Tb where
 hot : Int
 warm : Int
 gap : Int
 add : Int
 top : Int
 half : Int
structure Rc where
 kind : Int
 key : ByteArray
 n : Int
 sid : Int
 sids : List Int
 colour : Int
 locs : List Lo
 t : Tb
def tb0 : Tb := ⟨0, 0, 0, 0, 0, 0⟩
def Tb.l (t : Tb) : List Int := [t.hot, t.warm, t.gap, t.add, t.top, t.half]
abbrev rv (r : Rc) (sv lv : Value) : Value := .agg #[.int .i64 r.kind, .string r.key, .int .i64 r.n, .int .i64 r.sid, sv, .int .i64 r.colour, lv,
 .int .i64 r.t.hot, .int .i64 r.t.warm, .int .i64 r.t.gap, .int .i64 r.t.add, .int .i64 r.t.top, .int .i64 r.t.half]
abbrev lov (l : Lo) : Value := .agg #[.int .i64 l.d, .int .i64 l.s, .int .i64 l.i]
def RowI (w : World) (a : Option Addr) (zs : List Int) : Prop := zs = [] ∨ ∃ g o, a = some ⟨g, o, none⟩ ∧ g < w.heap.size ∧ ∀ i x, zs[i]? = some x → w.cell? ⟨g, o + i, none⟩ = some (.int .i64 x)
def Lo.cells (l : Lo) : List Value := [.int .i64 l.d, .int .i64 l.s, .int .i64 l.i]
def RowL (w : World) (a : Option Addr) (ls : List Lo) : Prop := ls = [] ∨ ∃ g o, a = some ⟨g, o, none⟩ ∧ g < w.heap.size ∧ ∀ i l, ls[i]? = some l → ∀ j v, l.cells[j]? = some v → w.cell? ⟨g, o + i * 3 + j, none⟩ = some v
theorem RowI.nxt {w w' : World} {a : Option Addr} {zs : List Int} (h : RowI w a zs) (u : Up Nul w w') : RowI w' a zs := by
 rcases h with e | ⟨g, o, e, hg, h⟩
 ·exact .inl e
 ·exact .inr ⟨g, o, e, Nat.lt_of_lt_of_le hg u.size, fun i x hi => (u.cell (p := ⟨g, o + i, none⟩) hg id).trans (h i x hi)⟩
theorem RowL.nxt {w w' : World} {a : Option Addr} {ls : List Lo} (h : RowL w a ls) (u : Up Nul w w') : RowL w' a ls := by
 rcases h with e | ⟨g, o, e, hg, h⟩
 ·exact .inl e
 ·exact .inr ⟨g, o, e, Nat.lt_of_lt_of_le hg u.size, fun i l hi j v hj => (u.cell (p := ⟨g, o + i * 3 + j, none⟩) hg id).trans (h i l hi j v hj)⟩
theorem RowI.nil (w : World) (a : Option Addr) : RowI w a [] := .inl rfl
theorem RowL.nil (w : World) (a : Option Addr) : RowL w a [] := .inl rfl
def RowB (w : World) (a : Option Addr) (zs : List Nat) : Prop := zs = [] ∨ ∃ g o, a = some ⟨g, o, none⟩ ∧ g < w.heap.size ∧ ∀ i (x : Nat), zs[i]? = some x → w.cell? ⟨g, o + i, none⟩ = some (.int .u8 (x : Nat))
theorem RowB.nxt {w w' : World} {a : Option Addr} {zs : List Nat} (h : RowB w a zs) (u : Up Nul w w') : RowB w' a zs := by
 rcases h with e | ⟨g, o, e, hg, h⟩
 ·exact .inl e
 ·exact .inr ⟨g, o, e, Nat.lt_of_lt_of_le hg u.size, fun i x hi => (u.cell (p := ⟨g, o + i, none⟩) hg id).trans (h i x hi)⟩
structure RH (w : World) (r : Rc) (sa la : Option Addr) : Prop where
 s : RowI w sa r.sids
 l : RowL w la r.locs
 ns : r.sids.length ≤ 100000
 nl : r.locs.length ≤ 100000
theorem RH.nxt {w w' : World} {r : Rc} {sa la : Option Addr} (h : RH w r sa la) (u : Up Nul w w') : RH w' r sa la := ⟨h.s.nxt u, h.l.nxt u, h.ns, h.nl⟩
def shT : Nat → List Int
 | 1 => [1, 16, 0, 64, 1, 2147483647, 0, 0, 0, 0, 0, 3, 0, 0, 0]
 | 2 => [1, 16, 0, 0, 0, 0, 0, 0, 0, 0, 0, 0, 0, 0, 0]
 | 3 => [1, 16, 0, 0, 1, 2147483647, 0, 2, 0, 0, 0, 6, 0, 0, 0]
 | 4 => [1, 16, 0, 0, 1, 2147483647, 0, 0, 0, 0, 0, 3, 0, 0, 0]
 | 5 => [0, 0, 0, 0, 1, 2147483647, 0, 0, 3, 1, 2147483647, 4, 0, 0, 0]
 | 6 => [0, 0, 0, 0, 1, 2147483647, 0, 0, 3, 0, 2147483647, 0, 2, 0, 0]
 | 7 => [0, 0, 0, 15, 1, 2147483647, 0, 0, 0, 0, 0, 1, 0, 0, 0]
 | 8 => [0, 0, 0, 0, 0, 0, 0, 0, 0, 0, 0, 0, 0, 0, 1000000]
 | _ => [0, 0, 0, 0, 0, 0, 0, 0, 0, 0, 0, 0, 0, 0, 0]
def sh (k j : Nat) : Int := (shT k).getD j 0
abbrev shv (k : Nat) : Value := .agg #[.int .i64 (sh k 0), .int .i64 (sh k 1), .int .i64 (sh k 2), .int .i64 (sh k 3), .int .i64 (sh k 4), .int .i64 (sh k 5), .int .i64 (sh k 6), .int .i64 (sh k 7), .int .i64 (sh k 8),
 .int .i64 (sh k 9), .int .i64 (sh k 10), .int .i64 (sh k 11), .int .i64 (sh k 12), .int .i64 (sh k 13), .int .i64 (sh k 14)]
abbrev tbv (t : Tb) : Value := .agg #[.int .i64 t.hot, .int .i64 t.warm, .int .i64 t.gap, .int .i64 t.add, .int .i64 t.top, .int .i64 t.half]
structure Shp (w : World) : Prop where
 c : ∀ k j, k < 9 → j < 15 → w.cell? ⟨0, k * 15 + j, none⟩ = some (.int .i64 (sh k j))
theorem Shp.lt {w : World} (h : Shp w) : 0 < w.heap.size := lt_of_cell (h.c 0 0 (by omega) (by omega))
theorem Shp.nxt {w w' : World} (h : Shp w) (u : Up Nul w w') : Shp w' := ⟨fun k j hk hj => (u.cell (p := ⟨0, k * 15 + j, none⟩) h.lt id).trans (h.c k j hk hj)⟩
theorem celN {q : Nat} {cs : Array Value} {T : TypeId} {fr : Nat × Nat} {W1 : World} (i : Nat) (v : Value) (h0 : q < W1.heap.size) (hq : W1.heap[q]? = some (.cells cs T fr)) (hv : cs[i]? = some v) : Hid (∀ W, Up Nul W1 W → W.cell? ⟨q, i, none⟩ = some v) := fun W u => by
 have a := (u.block q h0 id).trans hq
 simp only [World.cell?, a]
 exact hv
end Go.Proofs.YtepggchnhgpcnaaGreatDoor
set_option maxRecDepth 100000
namespace Go.Proofs.YtepggchnhgpcnaaGreatDoor
open Go.RowKit
def atD (P : Program) : Nat → TypeId → DataW Unit → Nat → Option Value
 | 0, _, _, _ => none
 | m + 1, t, d, off =>
  match P.underlying t, d with
  | some (.int _), .lit (.int k z) => if off = 0 then some (.int k z) else none
  | some (.array _ e), .agg ds => (ds[off / P.cellsOf e]?).bind fun d' => atD P m e d' (off % P.cellsOf e)
  | some (.struct fs), .agg ds => (fs.toList.findIdx? fun f => decide (off < f.offset + P.cellsOf f.type)).bind fun i => (fs[i]?).bind fun f => (ds[i]?).bind fun d' =>
    if f.offset ≤ off then atD P m f.type d' (off - f.offset) else none
  | _, _ => none
theorem atD_cell {P : Program} {w : World} {enc : TypeId × Value → Unit} {base : Nat} {sp : Nat → Bool} {held : Bool} : ∀ (m fuel : Nat) (t : TypeId) (d : DataW Unit) (cs : List Value) (p : List MemPlace) (off : Nat) (v : Value),
  DataW.trod enc P w base sp held fuel t cs = some (d, p) → atD P m t d off = some v → cs[off]? = some v
 | 0, _, _, _, _, _, _, _, _, h => by cases h
 | m + 1, fuel, t, d, cs, p, off, v, ht, h => by
  unfold atD at h
  split at h
  ·rename_i k' k z hu
   obtain ⟨n, rfl, e, _⟩ := DataW.trod_int hu ht
   cases e
   split at h
   ·rename_i h0; subst h0; simpa using h
   ·cases h
  ·rename_i n e ds hu
   obtain ⟨xs, m', rfl, hx, _, hn, hel⟩ := DataW.trod_array hu ht
   cases hx
   obtain ⟨d', h1, h2⟩ := Option.bind_eq_some_iff.1 h
   rw [List.getElem?_map] at h1
   obtain ⟨x, hx1, rfl⟩ := Option.map_eq_some_iff.1 h1
   have hi : off / P.cellsOf e < n := by
    have := (List.getElem?_eq_some_iff.1 hx1).1
    omega
   have h3 := atD_cell m m' e x.1 _ x.2 _ v ((hel _ hi).trans hx1) h2
   rw [List.getElem?_take] at h3
   split at h3
   ·rw [List.getElem?_drop] at h3
    rwa [show off / P.cellsOf e * P.cellsOf e + off % P.cellsOf e = off from Nat.div_add_mod' off (P.cellsOf e)] at h3
   ·cases h3
  ·rename_i fs ds hu
   obtain ⟨xs, m', rfl, hx, _, hn, hel⟩ := DataW.trod_struct hu ht
   cases hx
   obtain ⟨i, _, h⟩ := Option.bind_eq_some_iff.1 h
   obtain ⟨f, hf, h⟩ := Option.bind_eq_some_iff.1 h
   obtain ⟨d', h1, h2⟩ := Option.bind_eq_some_iff.1 h
   rw [List.getElem?_map] at h1
   obtain ⟨x, hx1, rfl⟩ := Option.map_eq_some_iff.1 h1
   split at h2
   ·rename_i hle
    have h3 := atD_cell m m' f.type x.1 _ x.2 _ v ((hel _ f hf).trans hx1) h2
    rw [List.getElem?_take] at h3
    split at h3
    ·rw [List.getElem?_drop] at h3
     rwa [show f.offset + (off - f.offset) = off by omega] at h3
    ·cases h3
   ·cases h2
  ·cases h
def seen (o : Option Value) (z : Int) : Bool := match o with | some (.int .i64 x) => x == z | _ => false
theorem seen_some {o : Option Value} {z : Int} (h : seen o z = true) : o = some (.int .i64 z) := by
 unfold seen at h
 split at h
 ·rw [eq_of_beq h]
 ·cases h
theorem gShapes : Tryz.prog.globalNamed "hypocaust/rec.shapes" = some 0 := by kernel_rfl
theorem tShapes : (Tryz.prog.globals[0]?).map (·.type) = some 106 := by kernel_rfl
theorem datShapes : ((List.range 9).all fun k => (List.range 15).all fun j => seen (atD Tryz.prog 8 106 Rows.laid_hypocaust_rec_shapes (k * 15 + j)) (sh k j)) = true := by kernel_rfl
theorem shp_of_laid {W : World} (h : laidMetH Tryz.prog [("hypocaust/rec.shapes", Rows.laid_hypocaust_rec_shapes)] W) : Shp W := by
 rw [MakeChecks.laidMetH_plain _ _ _ (by kernel_rfl)] at h
 obtain ⟨ps, ⟨g0, t0, cs0, f0, p0, q0, hg0, ht0, hv0, hd0, _, _⟩, _, _⟩ := h
 obtain rfl := Option.some.inj (gShapes.symm.trans hg0)
 obtain rfl := Option.some.inj (tShapes.symm.trans ht0)
 refine ⟨fun k j hk hj => ?_⟩
 have h1 := List.all_eq_true.1 (List.all_eq_true.1 datShapes k (List.mem_range.2 hk)) j (List.mem_range.2 hj)
 have h2 := atD_cell 8 f0 _ _ _ _ _ _ hd0 (seen_some h1)
 rw [World.var?_cell hg0 hv0]
 simpa using h2
theorem door_met (os : Os) (args : Array Value) : laidMetH Tryz.prog [("hypocaust/rec.shapes", Rows.laid_hypocaust_rec_shapes)] ((World.doorLaid Tryz.prog 400 os).forCall (fun _ _ => 0) ⟨#[], args, []⟩).memory :=
 laidMetH_of_parts3 (fuel := 8) (laidMet_of_run' 8 (by kernel_rfl) (by kernel_rfl)) (by kernel_rfl) (by kernel_rfl)
end Go.Proofs.YtepggchnhgpcnaaGreatDoor
namespace Go.Proofs.YtepggchnhgpcnaaGreatDoor
open Go.RowKit
set_option linter.unusedVariables false

def spn (lo hi x : Int) : Bool := decide (lo ≤ x) && decide (x ≤ hi)
theorem holds1_any (p : Nat) (lo hi x : Int) (w : World) (h0 : w.cell? ⟨p, 0, none⟩ = some (.int .i64 lo)) (h1 : w.cell? ⟨p, 1, none⟩ = some (.int .i64 hi)) :
  Calls Tryz.prog 81 #[.int .i64 x, .pointer (some ⟨p, 0, none⟩)] w fun e w' => e = .returned (.bool (! spn lo hi x)) ∧ Up Nul w w' := by
 by_cases a : x < lo
 ·have E : Hid ((! spn lo hi x) = true) := by show _ = _; unfold spn; rw [decide_eq_false (by omega : ¬ lo ≤ x)]; rfl
  rw [E.out]
  clear E
  go_enter Tryz.func81, Tryz.ntmps81
  go_wp2
  go_ret
  exact ⟨rfl, Up.refl _ _⟩
 ·by_cases b : hi < x
  ·have E : Hid ((! spn lo hi x) = true) := by show _ = _; unfold spn; rw [decide_eq_false (by omega : ¬ x ≤ hi)]; simp
   rw [E.out]
   clear E
   go_enter Tryz.func81, Tryz.ntmps81
   go_wp2
   go_ret
   exact ⟨rfl, Up.refl _ _⟩
  ·have E : Hid ((! spn lo hi x) = false) := by show _ = _; unfold spn; rw [decide_eq_true (by omega : lo ≤ x), decide_eq_true (by omega : x ≤ hi)]; rfl
   have F := hid (decide_eq_false b)
   rw [E.out]
   clear E
   go_enter Tryz.func81, Tryz.ntmps81
   go_wp2
   go_ret
   exact ⟨by first | rfl | exact congrArg (fun b => Ending.returned (.bool b)) F.out, Up.refl _ _⟩
theorem iindex_any (w : World) (a : Option Addr) (c : Nat) (zs : List Int) (h : RowI w a zs) (hl : zs.length ≤ 100000) (p : Nat) (bad : Int → Bool)
  (hc : ∀ x, x ∈ zs → ∀ W, Up Nul w W → Calls Tryz.prog 81 #[.int .i64 x, .pointer (some ⟨p, 0, none⟩)] W fun e w' => e = .returned (.bool (bad x)) ∧ Up Nul W w') :
  Calls Tryz.prog 86 #[.slice a zs.length c, .func (.func 81) #[] #[.pointer (some ⟨p, 0, none⟩)]] w fun e w' => ∃ x : Int, e = .returned (.int .i64 x) ∧ decide (0 ≤ x) = zs.any bad ∧ Up Nul w w' := by
 have HR := hid h
 have HC := hid hc
 have HL := hid hl
 obtain ⟨n, N⟩ : ∃ n, Hid (zs.length = n) := ⟨_, rfl⟩
 rw [N.out] at HL ⊢
 clear h hc hl
 go_enter Tryz.func86, Tryz.ntmps86
 go_wp2_with fail
 go_loopw [8] (fun i wr => ∃ t : Nat, t ≤ n ∧ i = .int .i64 (t : Nat) ∧ (zs.take t).any bad = false ∧ Up Nul w wr) (fun i _ => n - (intOf i).toNat)
 case atStart => exact ⟨0, Nat.zero_le _, rfl, rfl, Up.refl _ _⟩
 case round =>
  obtain ⟨t, ht, rfl, hb, hu⟩ := hrel
  have HU := hid hu
  have HB := hid hb
  have i0 : (0 : Int) ≤ (t : Int) := by omega
  have i9 : (t : Int) ≤ 100000 := by have := HL.out; omega
  by_cases hlt : t < n
  ·have htl : t < zs.length := by rw [N.out]; exact hlt
   obtain ⟨g, o, rfl, hg, hcell⟩ := (HR.out.nxt HU.out).resolve_left (fun e => by rw [e] at htl; cases htl)
   have x1 := hcell t _ (List.getElem?_eq_getElem htl)
   have HCI := hid (HC.out zs[t] (List.getElem_mem htl) _ HU.out)
   have HNX : Hid ((zs.take (t + 1)).any bad = bad zs[t]) := by
    show _ = _
    rw [List.take_succ_eq_append_getElem htl, List.any_append, HB.out]
    simp
   have HANY : Hid (zs.any bad = ((zs.take (t + 1)).any bad || (zs.drop (t + 1)).any bad)) := by
    show _ = _
    rw [← List.any_append, List.take_append_drop]
   generalize zs[t] = x at x1 HCI HNX
   have i2 : (t : Int) < (n : Int) := by omega
   have HT := hid hlt
   cases hbj : bad x with
   | true =>
    rw [hbj] at HCI HNX
    have HD : Hid (zs.any bad = true) := by show _ = _; rw [HANY.out, HNX.out]; rfl
    clear hbj hb hu ht hlt hg hcell htl HNX HANY
    go_wp2_with fail
    refine HCI.out.mono ?_
    rintro e w1 ⟨rfl, u1⟩
    have HU1 := hid (HU.out.trans u1)
    clear u1
    go_wp2
    go_ret
    exact ⟨_, rfl, by rw [HD.out]; simp, HU1.out⟩
   | false =>
    rw [hbj] at HCI HNX
    clear hbj hb hu ht hlt hg hcell htl HANY
    go_wp2_with fail
    refine HCI.out.mono ?_
    rintro e w1 ⟨rfl, u1⟩
    have HU1 := hid (HU.out.trans u1)
    clear u1
    go_wp2_with fail
    go_roundw
    case rel => exact ⟨t + 1, HT.out, by go_num, HNX.out, HU1.out⟩
    case measure => have := HT.out; simp [intOf]; omega
  ·obtain rfl : t = n := by omega
   have HD : Hid (zs.any bad = false) := by
    have := HB.out
    rw [List.take_of_length_le (by rw [N.out]; exact Nat.le_refl _)] at this
    exact this
   clear hb hu ht hlt
   go_wp2
   go_ret
   exact ⟨_, rfl, by rw [HD.out]; rfl, HU.out⟩
theorem icont_any (w : World) (a : Option Addr) (c : Nat) (zs : List Int) (h : RowI w a zs) (hl : zs.length ≤ 100000) (p : Nat) (bad : Int → Bool)
  (hc : ∀ x, x ∈ zs → ∀ W, Up Nul w W → Calls Tryz.prog 81 #[.int .i64 x, .pointer (some ⟨p, 0, none⟩)] W fun e w' => e = .returned (.bool (bad x)) ∧ Up Nul W w') :
  Calls Tryz.prog 82 #[.slice a zs.length c, .func (.func 81) #[] #[.pointer (some ⟨p, 0, none⟩)]] w fun e w' => e = .returned (.bool (zs.any bad)) ∧ Up Nul w w' := by
 have H := hid (iindex_any w a c zs h hl p bad hc)
 clear hc hl h
 generalize zs.any bad = b at H ⊢
 generalize zs.length = n at H ⊢
 go_enter Tryz.func82, Tryz.ntmps82
 go_wp2_with fail
 refine H.out.mono ?_
 rintro e w1 ⟨x, rfl, hx, u⟩
 have HU := hid u
 cases b with
 | true =>
  have h1 : 0 ≤ x := of_decide_eq_true hx
  clear hx u
  go_wp2
  go_ret
  exact ⟨rfl, HU.out⟩
 | false =>
  have h1 : ¬ 0 ≤ x := of_decide_eq_false hx
  have HX := hid hx
  clear hx u
  go_wp2
  go_ret
  exact ⟨congrArg (fun b => Ending.returned (.bool b)) HX.out, HU.out⟩

theorem bindex_any (w : World) (a : Option Addr) (c : Nat) (zs : List Nat) (h : RowB w a zs) (hl : zs.length ≤ 100000) (bad : Nat → Bool)
  (hc : ∀ x, x ∈ zs → ∀ W, Up Nul w W → Calls Tryz.prog 83 #[.int .u8 (x : Nat)] W fun e w' => e = .returned (.bool (bad x)) ∧ Up Nul W w') :
  Calls Tryz.prog 95 #[.slice a zs.length c, .func (.func 83) #[] #[]] w fun e w' => ∃ x : Int, e = .returned (.int .i64 x) ∧ decide (0 ≤ x) = zs.any bad ∧ Up Nul w w' := by
 have HR := hid h
 have HC := hid hc
 have HL := hid hl
 obtain ⟨n, N⟩ : ∃ n, Hid (zs.length = n) := ⟨_, rfl⟩
 rw [N.out] at HL ⊢
 clear h hc hl
 go_enter Tryz.func95, Tryz.ntmps95
 go_wp2_with fail
 go_loopw [8] (fun i wr => ∃ t : Nat, t ≤ n ∧ i = .int .i64 (t : Nat) ∧ (zs.take t).any bad = false ∧ Up Nul w wr) (fun i _ => n - (intOf i).toNat)
 case atStart => exact ⟨0, Nat.zero_le _, rfl, rfl, Up.refl _ _⟩
 case round =>
  obtain ⟨t, ht, rfl, hb, hu⟩ := hrel
  have HU := hid hu
  have HB := hid hb
  have i0 : (0 : Int) ≤ (t : Int) := by omega
  have i9 : (t : Int) ≤ 100000 := by have := HL.out; omega
  by_cases hlt : t < n
  ·have htl : t < zs.length := by rw [N.out]; exact hlt
   obtain ⟨g, o, rfl, hg, hcell⟩ := (HR.out.nxt HU.out).resolve_left (fun e => by rw [e] at htl; cases htl)
   have x1 := hcell t _ (List.getElem?_eq_getElem htl)
   have HCI := hid (HC.out zs[t] (List.getElem_mem htl) _ HU.out)
   have HNX : Hid ((zs.take (t + 1)).any bad = bad zs[t]) := by
    show _ = _
    rw [List.take_succ_eq_append_getElem htl, List.any_append, HB.out]
    simp
   have HANY : Hid (zs.any bad = ((zs.take (t + 1)).any bad || (zs.drop (t + 1)).any bad)) := by
    show _ = _
    rw [← List.any_append, List.take_append_drop]
   generalize zs[t] = x at x1 HCI HNX
   have i2 : (t : Int) < (n : Int) := by omega
   have HT := hid hlt
   cases hbj : bad x with
   | true =>
    rw [hbj] at HCI HNX
    have HD : Hid (zs.any bad = true) := by show _ = _; rw [HANY.out, HNX.out]; rfl
    clear hbj hb hu ht hlt hg hcell htl HNX HANY
    go_wp2_with fail
    refine HCI.out.mono ?_
    rintro e w1 ⟨rfl, u1⟩
    have HU1 := hid (HU.out.trans u1)
    clear u1
    go_wp2
    go_ret
    exact ⟨_, rfl, by rw [HD.out]; simp, HU1.out⟩
   | false =>
    rw [hbj] at HCI HNX
    clear hbj hb hu ht hlt hg hcell htl HANY
    go_wp2_with fail
    refine HCI.out.mono ?_
    rintro e w1 ⟨rfl, u1⟩
    have HU1 := hid (HU.out.trans u1)
    clear u1
    go_wp2_with fail
    go_roundw
    case rel => exact ⟨t + 1, HT.out, by go_num, HNX.out, HU1.out⟩
    case measure => have := HT.out; simp [intOf]; omega
  ·obtain rfl : t = n := by omega
   have HD : Hid (zs.any bad = false) := by
    have := HB.out
    rw [List.take_of_length_le (by rw [N.out]; exact Nat.le_refl _)] at this
    exact this
   clear hb hu ht hlt
   go_wp2
   go_ret
   exact ⟨_, rfl, by rw [HD.out]; rfl, HU.out⟩
theorem bcont_any (w : World) (a : Option Addr) (c : Nat) (zs : List Nat) (h : RowB w a zs) (hl : zs.length ≤ 100000) (bad : Nat → Bool)
  (hc : ∀ x, x ∈ zs → ∀ W, Up Nul w W → Calls Tryz.prog 83 #[.int .u8 (x : Nat)] W fun e w' => e = .returned (.bool (bad x)) ∧ Up Nul W w') :
  Calls Tryz.prog 84 #[.slice a zs.length c, .func (.func 83) #[] #[]] w fun e w' => e = .returned (.bool (zs.any bad)) ∧ Up Nul w w' := by
 have H := hid (bindex_any w a c zs h hl bad hc)
 clear hc hl h
 generalize zs.any bad = b at H ⊢
 generalize zs.length = n at H ⊢
 go_enter Tryz.func84, Tryz.ntmps84
 go_wp2_with fail
 refine H.out.mono ?_
 rintro e w1 ⟨x, rfl, hx, u⟩
 have HU := hid u
 cases b with
 | true =>
  have h1 : 0 ≤ x := of_decide_eq_true hx
  clear hx u
  go_wp2
  go_ret
  exact ⟨rfl, HU.out⟩
 | false =>
  have h1 : ¬ 0 ≤ x := of_decide_eq_false hx
  have HX := hid hx
  clear hx u
  go_wp2
  go_ret
  exact ⟨congrArg (fun b => Ending.returned (.bool b)) HX.out, HU.out⟩

theorem lindex_any (w : World) (a : Option Addr) (c : Nat) (zs : List Lo) (h : RowL w a zs) (hl : zs.length ≤ 100000) (bad : Lo → Bool)
  (hc : ∀ x, x ∈ zs → ∀ W, Up Nul w W → Calls Tryz.prog 60 #[lov x] W fun e w' => e = .returned (.bool (bad x)) ∧ Up Nul W w') :
  Calls Tryz.prog 85 #[.slice a zs.length c, .func (.func 60) #[] #[]] w fun e w' => ∃ x : Int, e = .returned (.int .i64 x) ∧ decide (0 ≤ x) = zs.any bad ∧ Up Nul w w' := by
 have HR := hid h
 have HC := hid hc
 have HL := hid hl
 obtain ⟨n, N⟩ : ∃ n, Hid (zs.length = n) := ⟨_, rfl⟩
 rw [N.out] at HL ⊢
 clear h hc hl
 go_enter Tryz.func85, Tryz.ntmps85
 go_wp2_with fail
 go_loopw [8] (fun i wr => ∃ t : Nat, t ≤ n ∧ i = .int .i64 (t : Nat) ∧ (zs.take t).any bad = false ∧ Up Nul w wr) (fun i _ => n - (intOf i).toNat)
 case atStart => exact ⟨0, Nat.zero_le _, rfl, rfl, Up.refl _ _⟩
 case round =>
  obtain ⟨t, ht, rfl, hb, hu⟩ := hrel
  have HU := hid hu
  have HB := hid hb
  have i0 : (0 : Int) ≤ (t : Int) := by omega
  have i9 : (t : Int) ≤ 100000 := by have := HL.out; omega
  by_cases hlt : t < n
  ·have htl : t < zs.length := by rw [N.out]; exact hlt
   obtain ⟨g, o, rfl, hg, hcell⟩ := (HR.out.nxt HU.out).resolve_left (fun e => by rw [e] at htl; cases htl)
   have x1 := hcell t _ (List.getElem?_eq_getElem htl) 0 _ rfl
   have x2 := hcell t _ (List.getElem?_eq_getElem htl) 1 _ rfl
   have x3 := hcell t _ (List.getElem?_eq_getElem htl) 2 _ rfl
   rw [Nat.add_zero] at x1
   have HCI := hid (HC.out zs[t] (List.getElem_mem htl) _ HU.out)
   have HNX : Hid ((zs.take (t + 1)).any bad = bad zs[t]) := by
    show _ = _
    rw [List.take_succ_eq_append_getElem htl, List.any_append, HB.out]
    simp
   have HANY : Hid (zs.any bad = ((zs.take (t + 1)).any bad || (zs.drop (t + 1)).any bad)) := by
    show _ = _
    rw [← List.any_append, List.take_append_drop]
   generalize zs[t] = x at x1 x2 x3 HCI HNX
   have i2 : (t : Int) < (n : Int) := by omega
   have HT := hid hlt
   cases hbj : bad x with
   | true =>
    rw [hbj] at HCI HNX
    have HD : Hid (zs.any bad = true) := by show _ = _; rw [HANY.out, HNX.out]; rfl
    clear hbj hb hu ht hlt hg hcell htl HNX HANY
    go_wp2_with fail
    refine HCI.out.mono ?_
    rintro e w1 ⟨rfl, u1⟩
    have HU1 := hid (HU.out.trans u1)
    clear u1
    go_wp2
    go_ret
    exact ⟨_, rfl, by rw [HD.out]; simp, HU1.out⟩
   | false =>
    rw [hbj] at HCI HNX
    clear hbj hb hu ht hlt hg hcell htl HANY
    go_wp2_with fail
    refine HCI.out.mono ?_
    rintro e w1 ⟨rfl, u1⟩
    have HU1 := hid (HU.out.trans u1)
    clear u1
    go_wp2_with fail
    go_roundw
    case rel => exact ⟨t + 1, HT.out, by go_num, HNX.out, HU1.out⟩
    case measure => have := HT.out; simp [intOf]; omega
  ·obtain rfl : t = n := by omega
   have HD : Hid (zs.any bad = false) := by
    have := HB.out
    rw [List.take_of_length_le (by rw [N.out]; exact Nat.le_refl _)] at this
    exact this
   clear hb hu ht hlt
   go_wp2
   go_ret
   exact ⟨_, rfl, by rw [HD.out]; rfl, HU.out⟩
theorem lcont_any (w : World) (a : Option Addr) (c : Nat) (zs : List Lo) (h : RowL w a zs) (hl : zs.length ≤ 100000) (bad : Lo → Bool)
  (hc : ∀ x, x ∈ zs → ∀ W, Up Nul w W → Calls Tryz.prog 60 #[lov x] W fun e w' => e = .returned (.bool (bad x)) ∧ Up Nul W w') :
  Calls Tryz.prog 59 #[.slice a zs.length c, .func (.func 60) #[] #[]] w fun e w' => e = .returned (.bool (zs.any bad)) ∧ Up Nul w w' := by
 have H := hid (lindex_any w a c zs h hl bad hc)
 clear hc hl h
 generalize zs.any bad = b at H ⊢
 generalize zs.length = n at H ⊢
 go_enter Tryz.func59, Tryz.ntmps59
 go_wp2_with fail
 refine H.out.mono ?_
 rintro e w1 ⟨x, rfl, hx, u⟩
 have HU := hid u
 cases b with
 | true =>
  have h1 : 0 ≤ x := of_decide_eq_true hx
  clear hx u
  go_wp2
  go_ret
  exact ⟨rfl, HU.out⟩
 | false =>
  have h1 : ¬ 0 ≤ x := of_decide_eq_false hx
  have HX := hid hx
  clear hx u
  go_wp2
  go_ret
  exact ⟨congrArg (fun b => Ending.returned (.bool b)) HX.out, HU.out⟩
theorem kind_any (k : Int) (w : World) : Calls Tryz.prog 55 #[.int .i64 k] w fun e w' => e = .returned (.bool (spn 1 8 k)) ∧ Up Nul w w' := by
 by_cases a : 1 ≤ k
 ·by_cases b : k ≤ 8
  ·have E : Hid (spn 1 8 k = true) := by show _ = _; unfold spn; rw [decide_eq_true a, decide_eq_true b]; rfl
   rw [E.out]; clear E
   go_enter Tryz.func55, Tryz.ntmps55
   go_wp2
   go_ret
   exact ⟨rfl, Up.refl _ _⟩
  ·have E : Hid (spn 1 8 k = false) := by show _ = _; unfold spn; rw [decide_eq_false b]; simp
   have F := hid (decide_eq_false b)
   rw [E.out]; clear E
   go_enter Tryz.func55, Tryz.ntmps55
   go_wp2
   go_ret
   exact ⟨by first | rfl | exact congrArg (fun b => Ending.returned (.bool b)) F.out, Up.refl _ _⟩
 ·have E : Hid (spn 1 8 k = false) := by show _ = _; unfold spn; rw [decide_eq_false a]; rfl
  have F := hid (decide_eq_false a)
  rw [E.out]; clear E
  go_enter Tryz.func55, Tryz.ntmps55
  go_wp2
  go_ret
  exact ⟨by first | rfl | exact congrArg (fun b => Ending.returned (.bool b)) F.out, Up.refl _ _⟩
theorem holds_any (lo hi : Int) (a : Option Addr) (c : Nat) (zs : List Int) (w : World) (h : RowI w a zs) (hl : zs.length ≤ 100000) :
  Calls Tryz.prog 56 #[.agg #[.int .i64 lo, .int .i64 hi], .slice a zs.length c] w fun e w' => e = .returned (.bool (zs.all (spn lo hi))) ∧ Up Nul w w' := by
 have HU := hid ((Up.refl Nul w).alloc (.cells #[.int .i64 lo, .int .i64 hi] 103))
 have HC := hid (icont_any (w.alloc (.cells #[.int .i64 lo, .int .i64 hi] 103)) a c zs (h.nxt HU.out) hl w.heap.size (fun x => ! spn lo hi x) (fun x _ W u => holds1_any w.heap.size lo hi x W
  ((u.cell (p := ⟨w.heap.size, 0, none⟩) (by simp) id).trans (World.cell?_alloc_new _ _ _ 0)) ((u.cell (p := ⟨w.heap.size, 1, none⟩) (by simp) id).trans (World.cell?_alloc_new _ _ _ 1))))
 have HE : Hid ((! zs.any fun x => ! spn lo hi x) = zs.all (spn lo hi)) := by
  show _ = _
  rw [List.all_eq_not_any_not]
 clear h hl
 generalize zs.any (fun x => ! spn lo hi x) = b at HC HE
 rw [← HE.out]
 clear HE
 generalize zs.length = n at HC ⊢
 go_enter Tryz.func56, Tryz.ntmps56
 go_wp2_with fail
 refine HC.out.mono ?_
 rintro e w1 ⟨rfl, u⟩
 have U1 := hid (HU.out.trans u)
 clear u
 go_wp2
 go_ret
 exact ⟨by first | rfl | simp, U1.out⟩
def pch (c : Nat) : Bool := decide (33 ≤ c) && decide (c ≤ 126)
theorem plain1_any (x : Nat) (w : World) : Calls Tryz.prog 83 #[.int .u8 (x : Nat)] w fun e w' => e = .returned (.bool (! pch x)) ∧ Up Nul w w' := by
 by_cases a : x < 33
 ·have E : Hid ((! pch x) = true) := by show _ = _; unfold pch; rw [decide_eq_false (by omega : ¬ 33 ≤ x)]; rfl
  have i1 : (x : Int) < 33 := by omega
  rw [E.out]; clear E a
  go_enter Tryz.func83, Tryz.ntmps83
  go_wp2
  go_ret
  exact ⟨rfl, Up.refl _ _⟩
 ·have i1 : ¬ (x : Int) < 33 := by omega
  by_cases b : 126 < x
  ·have E : Hid ((! pch x) = true) := by show _ = _; unfold pch; rw [decide_eq_false (by omega : ¬ x ≤ 126)]; simp
   have i2 : 126 < (x : Int) := by omega
   rw [E.out]; clear E a b
   go_enter Tryz.func83, Tryz.ntmps83
   go_wp2
   go_ret
   exact ⟨rfl, Up.refl _ _⟩
  ·have E : Hid ((! pch x) = false) := by show _ = _; unfold pch; rw [decide_eq_true (by omega : 33 ≤ x), decide_eq_true (by omega : x ≤ 126)]; rfl
   have i2 : ¬ 126 < (x : Int) := by omega
   have F := hid (decide_eq_false i2)
   rw [E.out]; clear E a b
   go_enter Tryz.func83, Tryz.ntmps83
   go_wp2
   go_ret
   exact ⟨by first | rfl | exact congrArg (fun b => Ending.returned (.bool b)) F.out, Up.refl _ _⟩
theorem plain_any (s : ByteArray) (w : World) (hs : s.size ≤ 100000) : Calls Tryz.prog 57 #[.string s] w fun e w' => e = .returned (.bool ((nums s).all pch)) ∧ Up Nul w w' := by
 have hcv := Lib.run_convert_string_bytes (P := Tryz.prog) w 9 125 5 s Tryz.underlying9 Tryz.underlying125 Tryz.underlying5
 have HU : Hid (Up Nul w (Lib.bytesWorld w 5 s)) := ⟨rfl, rfl, rfl, by rw [Lib.bytesWorld_size]; omega, fun k hk _ => Lib.bytesWorld_at_old w _ s k hk⟩
 have HR : RowB (Lib.bytesWorld w 5 s) (some ⟨w.heap.size, 0, none⟩) (nums s) := .inr ⟨w.heap.size, 0, rfl, by rw [Lib.bytesWorld_size]; omega, fun i x hi => by
  have hl : i < s.size := by
   rw [← nums_length]
   rcases Nat.lt_or_ge i (nums s).length with h | h
   ·exact h
   ·rw [List.getElem?_eq_none h] at hi; cases hi
  rw [Nat.zero_add, Lib.bytesWorld_cell w _ s i hl]
  have : x = (s.data.toList.getD i 0).toNat := by
   simp only [nums, List.getElem?_map, Option.map_eq_some_iff] at hi
   obtain ⟨y, hy, rfl⟩ := hi
   simp [List.getD_eq_getElem?_getD, hy]
  rw [this]⟩
 have HC := hid (bcont_any _ _ (grownCap w s.size 0 5) (nums s) HR (by rw [nums_length]; exact hs) (fun x => ! pch x) (fun x _ W u => plain1_any x W))
 rw [nums_length] at HC
 have HE : Hid ((! (nums s).any fun x => ! pch x) = (nums s).all pch) := by
  show _ = _
  rw [List.all_eq_not_any_not]
 clear HR
 generalize (nums s).any (fun x => ! pch x) = b at HC HE
 rw [← HE.out]
 clear HE
 generalize grownCap w s.size 0 5 = gc at HC hcv
 generalize Lib.bytesWorld w 5 s = w1 at HC hcv HU
 go_enter Tryz.func57, Tryz.ntmps57
 go_wp2_with fail
 refine HC.out.mono ?_
 rintro e w2 ⟨rfl, u⟩
 have U1 := hid (HU.out.trans u)
 clear u
 go_wp2
 go_ret
 exact ⟨by first | rfl | simp, U1.out⟩
def lok (l : Lo) : Bool := spn 0 23 l.d && spn 0 63 l.s && spn 1 2147483647 l.i
theorem nowhere_any (l : Lo) (w : World) : Calls Tryz.prog 60 #[lov l] w fun e w' => e = .returned (.bool (! lok l)) ∧ Up Nul w w' := by
 obtain ⟨d, s, i⟩ := l
 have HU := hid ((Up.refl Nul w).alloc (.cells #[.int .i64 d, .int .i64 s, .int .i64 i] 64))
 have key : ∀ b, (! lok ⟨d, s, i⟩) = b → (d < 0 ∧ b = true ∨ ¬ d < 0 ∧ (24 ≤ d ∧ b = true ∨ ¬ 24 ≤ d ∧ (s < 0 ∧ b = true ∨ ¬ s < 0 ∧ (64 ≤ s ∧ b = true ∨ ¬ 64 ≤ s ∧ (i < 1 ∧ b = true ∨ ¬ i < 1 ∧ b = decide (2147483647 < i)))))) := by
  rintro b rfl
  unfold lok spn
  by_cases h1 : d < 0
  ·exact .inl ⟨h1, by simp [h1]⟩
  refine .inr ⟨h1, ?_⟩
  by_cases h2 : 24 ≤ d
  ·exact .inl ⟨h2, by simp; omega⟩
  refine .inr ⟨h2, ?_⟩
  by_cases h3 : s < 0
  ·exact .inl ⟨h3, by simp; omega⟩
  refine .inr ⟨h3, ?_⟩
  by_cases h4 : 64 ≤ s
  ·exact .inl ⟨h4, by simp; omega⟩
  refine .inr ⟨h4, ?_⟩
  by_cases h5 : i < 1
  ·exact .inl ⟨h5, by simp; omega⟩
  refine .inr ⟨h5, ?_⟩
  by_cases h6 : 2147483647 < i
  ·simp [h6]
  ·have a1 : 0 ≤ d := by omega
   have a2 : d ≤ 23 := by omega
   have a3 : 0 ≤ s := by omega
   have a4 : s ≤ 63 := by omega
   have a5 : 1 ≤ i := by omega
   have a6 : i ≤ 2147483647 := by omega
   simp [h6, a1, a2, a3, a4, a5, a6]
 show Calls Tryz.prog 60 #[.agg #[.int .i64 d, .int .i64 s, .int .i64 i]] w _
 generalize hb : (! lok ⟨d, s, i⟩) = b
 have key := key b hb
 clear hb
 rcases key with ⟨h1, rfl⟩ | ⟨h1, ⟨h2, rfl⟩ | ⟨h2, ⟨h3, rfl⟩ | ⟨h3, ⟨h4, rfl⟩ | ⟨h4, ⟨h5, rfl⟩ | ⟨h5, rfl⟩⟩⟩⟩⟩
 all_goals
  go_enter Tryz.func60, Tryz.ntmps60
  go_wp2
  go_ret
  exact ⟨by first | rfl | simp, HU.out⟩
theorem table_any (t : Tb) (w : World) : Calls Tryz.prog 61 #[tbv t] w fun e w' => ∃ g, e = .returned (.slice (some ⟨g, 0, none⟩) 6 6) ∧ RowI w' (some ⟨g, 0, none⟩) t.l ∧ Up Nul w w' := by
 obtain ⟨a, b, c, d, e, f⟩ := t
 have HU := hid ((Up.refl Nul w).alloc (.cells #[.int .i64 a, .int .i64 b, .int .i64 c, .int .i64 d, .int .i64 e, .int .i64 f] 26))
 have HR : Hid (∀ W : World, ∀ g, g = W.heap.size → RowI (W.alloc (.cells #[.int .i64 a, .int .i64 b, .int .i64 c, .int .i64 d, .int .i64 e, .int .i64 f] 3)) (some ⟨g, 0, none⟩) (Tb.l ⟨a, b, c, d, e, f⟩)) := fun W g hg => by
  subst hg
  refine .inr ⟨W.heap.size, 0, rfl, by simp, fun i x hi => ?_⟩
  rw [Nat.zero_add]
  match i, hi with
  | 0, hi => cases hi; exact World.cell?_alloc_new _ _ _ 0
  | 1, hi => cases hi; exact World.cell?_alloc_new _ _ _ 1
  | 2, hi => cases hi; exact World.cell?_alloc_new _ _ _ 2
  | 3, hi => cases hi; exact World.cell?_alloc_new _ _ _ 3
  | 4, hi => cases hi; exact World.cell?_alloc_new _ _ _ 4
  | 5, hi => cases hi; exact World.cell?_alloc_new _ _ _ 5
 show Calls Tryz.prog 61 #[.agg #[.int .i64 a, .int .i64 b, .int .i64 c, .int .i64 d, .int .i64 e, .int .i64 f]] w _
 go_enter Tryz.func61, Tryz.ntmps61
 go_wp2
 go_ret
 exact ⟨_, rfl, HR.out _ _ (by simp), HU.out.alloc _⟩
def nz (zs : List Int) : Nat := (zs.filter fun z => decide (z ≠ 0)).length
theorem nz_le (zs : List Int) : nz zs ≤ zs.length := List.length_filter_le _ _
theorem nz_next {zs : List Int} {t : Nat} (h : t < zs.length) : nz (zs.take (t + 1)) = nz (zs.take t) + if zs[t] ≠ 0 then 1 else 0 := by
 unfold nz
 rw [List.take_succ_eq_append_getElem h, List.filter_append, List.length_append]
 congr 1
 by_cases e : zs[t] = 0
 ·simp [e]
 ·simp [e]
theorem locsOf_any (k : Nat) (lo le : Int) (a : Option Addr) (c : Nat) (zs : List Int) (w : World) (h : RowI w a zs) (hl : zs.length ≤ 3) (e1 : sh k 11 = lo) (e2 : sh k 12 = le) (b1 : 0 ≤ lo) (b2 : lo ≤ 10) (b3 : 0 ≤ le) (b4 : le ≤ 2) :
  Calls Tryz.prog 58 #[shv k, .slice a zs.length c] w fun e w' => e = .returned (.int .i64 (lo + le * (nz zs : Nat))) ∧ Up Nul w w' := by
 have HR := hid h
 have HL := hid hl
 obtain ⟨n, N⟩ : ∃ n, Hid (zs.length = n) := ⟨_, rfl⟩
 rw [N.out] at HL ⊢
 show Calls Tryz.prog 58 #[.agg #[.int .i64 (sh k 0), .int .i64 (sh k 1), .int .i64 (sh k 2), .int .i64 (sh k 3), .int .i64 (sh k 4), .int .i64 (sh k 5), .int .i64 (sh k 6), .int .i64 (sh k 7), .int .i64 (sh k 8),
  .int .i64 (sh k 9), .int .i64 (sh k 10), .int .i64 (sh k 11), .int .i64 (sh k 12), .int .i64 (sh k 13), .int .i64 (sh k 14)], .slice a n c] w _
 rw [e1, e2]
 have HB := hid (And.intro b1 (And.intro b2 (And.intro b3 b4)))
 generalize sh k 0 = c0
 generalize sh k 1 = c1
 generalize sh k 2 = c2
 generalize sh k 3 = c3
 generalize sh k 4 = c4
 generalize sh k 5 = c5
 generalize sh k 6 = c6
 generalize sh k 7 = c7
 generalize sh k 8 = c8
 generalize sh k 9 = c9
 generalize sh k 10 = c10
 generalize sh k 13 = c13
 generalize sh k 14 = c14
 obtain ⟨W, hW⟩ : ∃ W, W = w.alloc (.cells #[.int .i64 c0, .int .i64 c1, .int .i64 c2, .int .i64 c3, .int .i64 c4, .int .i64 c5, .int .i64 c6, .int .i64 c7, .int .i64 c8, .int .i64 c9, .int .i64 c10, .int .i64 lo, .int .i64 le, .int .i64 c13, .int .i64 c14] 105) := ⟨_, rfl⟩
 have HU : Hid (Up Nul w W) := by show Up _ _ _; rw [hW]; exact (Up.refl Nul w).alloc _
 have x11 : W.cell? ⟨w.heap.size, 11, none⟩ = some (.int .i64 lo) := by rw [hW]; exact World.cell?_alloc_new _ _ _ 11
 have x12 : W.cell? ⟨w.heap.size, 12, none⟩ = some (.int .i64 le) := by rw [hW]; exact World.cell?_alloc_new _ _ _ 12
 clear h hl e1 e2 b1 b2 b3 b4
 go_enter Tryz.func58, Tryz.ntmps58
 go_wp2_with fail
 rw [← hW]
 clear hW
 generalize w.heap.size = p at x11 x12 ⊢
 go_loop [5, 7, 12] (fun s _ i => ∃ t : Nat, t ≤ n ∧ i = .int .i64 (t : Nat) ∧ s = .int .i64 (lo + le * (nz (zs.take t) : Nat))) (fun _ _ i => n - (intOf i).toNat)
 case atStart => exact ⟨0, Nat.zero_le _, rfl, by simp [nz]⟩
 case round =>
  obtain ⟨t, ht, rfl, rfl⟩ := hrel
  have i0 : (0 : Int) ≤ (t : Int) := by omega
  have i9 : (t : Int) ≤ 3 := by have := HL.out; omega
  by_cases hlt : t < n
  ·have htl : t < zs.length := by rw [N.out]; exact hlt
   obtain ⟨g, o, rfl, hg, hcell⟩ := (HR.out.nxt HU.out).resolve_left (fun e => by rw [e] at htl; cases htl)
   have x1 := hcell t _ (List.getElem?_eq_getElem htl)
   have HN := hid (nz_next htl)
   have hz : nz (zs.take t) ≤ 3 := Nat.le_trans (nz_le _) (by rw [List.length_take]; omega)
   generalize zs[t] = x at x1 HN
   have i2 : (t : Int) < (n : Int) := by omega
   have HT := hid hlt
   obtain ⟨m, M⟩ : ∃ m, Hid (nz (zs.take t) = m) := ⟨_, rfl⟩
   rw [M.out] at HN hz ⊢
   have HM : Hid (∃ q : Nat, q ≤ 6 ∧ le * (m : Int) = (q : Int) ∧ le * ((m + 1 : Nat) : Int) = (q : Int) + le) := by
    obtain ⟨_, _, h3, h4⟩ := HB.out
    obtain ⟨l, rfl⟩ := Int.eq_ofNat_of_zero_le h3
    refine ⟨l * m, ?_, by simp, by rw [Int.natCast_add, Int.mul_add]; simp⟩
    have : l ≤ 2 := by omega
    calc l * m ≤ 2 * 3 := Nat.mul_le_mul this hz
     _ = 6 := rfl
   obtain ⟨q, hq6, hq1, hq2⟩ := HM.out
   rw [hq1]
   have HQ := hid (And.intro hq1 hq2)
   clear HM hq1 hq2 hz hg hcell htl hlt ht
   by_cases e : x = 0
   ·subst e
    have HN2 : Hid (nz (zs.take (t + 1)) = m) := by show _ = _; rw [HN.out]; simp
    clear HN
    go_wp2_with fail
    go_round
    case rel => exact ⟨t + 1, HT.out, by go_num, by rw [HN2.out, HQ.out.1]⟩
    case measure => have := HT.out; simp [intOf]; omega
   ·have HN2 : Hid (nz (zs.take (t + 1)) = m + 1) := by show _ = _; rw [HN.out, if_pos e]
    clear HN
    have i3 : IntKind.i64.wrap (lo + (q : Int) + le) = lo + (q : Int) + le := by have := HB.out; exact IntWalk.i64_in _ (by omega)
    have i4 : wrap64 (lo + (q : Int) + le) = lo + (q : Int) + le := by rw [← IntWalk.i64_left]; exact i3
    have E := hid e
    have hne : (x == 0) = false := by simpa using e
    go_wp2_with fail
    go_round
    case rel => exact ⟨t + 1, HT.out, by go_num, by rw [HN2.out, HQ.out.2, Int.add_assoc]⟩
    case measure => have := HT.out; simp [intOf]; omega
  ·obtain rfl : t = n := by omega
   have HD : Hid (nz (zs.take t) = nz zs) := by show _ = _; rw [List.take_of_length_le (by rw [N.out]; exact Nat.le_refl _)]
   clear ht hlt
   go_wp2
   go_ret
   exact ⟨by rw [HD.out]; rfl, HU.out⟩
def kn (r : Rc) : Nat := r.kind.toNat
def okR (r : Rc) : Bool :=
 spn 1 8 r.kind && ([((r.key.size : Nat) : Int)].all (spn (sh (kn r) 0) (sh (kn r) 1)) && (nums r.key).all pch && [r.n].all (spn (sh (kn r) 2) (sh (kn r) 3)) && [r.sid].all (spn (sh (kn r) 4) (sh (kn r) 5)) && [r.colour].all (spn (sh (kn r) 6) (sh (kn r) 7)) &&
  (((r.sids.length : Nat) : Int) == sh (kn r) 8) && r.sids.all (spn (sh (kn r) 9) (sh (kn r) 10)) && (((r.locs.length : Nat) : Int) == sh (kn r) 11 + sh (kn r) 12 * ((nz r.sids : Nat) : Int)) && r.locs.all lok && r.t.l.all (spn (sh (kn r) 13) (sh (kn r) 14)))
theorem spn_iff {lo hi x : Int} : spn lo hi x = true ↔ lo ≤ x ∧ x ≤ hi := by simp [spn]
structure OkF (r : Rc) : Prop where
 k1 : 1 ≤ kn r
 k8 : kn r ≤ 8
 kk : r.kind = (kn r : Int)
 key : sh (kn r) 0 ≤ (r.key.size : Nat) ∧ ((r.key.size : Nat) : Int) ≤ sh (kn r) 1
 pl : ∀ c ∈ nums r.key, 33 ≤ c ∧ c ≤ 126
 n : sh (kn r) 2 ≤ r.n ∧ r.n ≤ sh (kn r) 3
 sid : sh (kn r) 4 ≤ r.sid ∧ r.sid ≤ sh (kn r) 5
 co : sh (kn r) 6 ≤ r.colour ∧ r.colour ≤ sh (kn r) 7
 ns : ((r.sids.length : Nat) : Int) = sh (kn r) 8
 sids : ∀ x ∈ r.sids, sh (kn r) 9 ≤ x ∧ x ≤ sh (kn r) 10
 nl : ((r.locs.length : Nat) : Int) = sh (kn r) 11 + sh (kn r) 12 * ((nz r.sids : Nat) : Int)
 locs : ∀ l ∈ r.locs, (0 ≤ l.d ∧ l.d ≤ 23) ∧ (0 ≤ l.s ∧ l.s ≤ 63) ∧ 1 ≤ l.i ∧ l.i ≤ 2147483647
 t : ∀ x ∈ r.t.l, sh (kn r) 13 ≤ x ∧ x ≤ sh (kn r) 14
theorem okR_iff {r : Rc} : okR r = true ↔ OkF r := by
 constructor
 ·intro h
  unfold okR at h
  simp only [Bool.and_eq_true, spn_iff, List.all_cons, List.all_nil, Bool.and_true, List.all_eq_true, beq_iff_eq, pch, decide_eq_true_eq, lok] at h
  obtain ⟨⟨h1, h2⟩, ⟨⟨⟨⟨⟨⟨⟨⟨⟨a1, a2⟩, a3⟩, a4⟩, a5⟩, a6⟩, a7⟩, a8⟩, a9⟩, a10⟩⟩ := h
  have hk : r.kind = (kn r : Int) := by unfold kn; omega
  exact ⟨by omega, by omega, hk, a1, a2, a3, a4, a5, a6, a7, a8, fun l hl => ⟨(a9 l hl).1.1, (a9 l hl).1.2, (a9 l hl).2⟩, a10⟩
 ·intro h
  unfold okR
  simp only [Bool.and_eq_true, spn_iff, List.all_cons, List.all_nil, Bool.and_true, List.all_eq_true, beq_iff_eq, pch, decide_eq_true_eq, lok]
  have := h.kk
  have := h.k1
  have := h.k8
  exact ⟨⟨by omega, by omega⟩, ⟨⟨⟨⟨⟨⟨⟨⟨⟨h.key, h.pl⟩, h.n⟩, h.sid⟩, h.co⟩, h.ns⟩, h.sids⟩, h.nl⟩, fun l hl => ⟨⟨(h.locs l hl).1, (h.locs l hl).2.1⟩, (h.locs l hl).2.2⟩⟩, h.t⟩⟩
theorem sh_bounds : ∀ k, k < 9 → (0 ≤ sh k 8 ∧ sh k 8 ≤ 3) ∧ (0 ≤ sh k 11 ∧ sh k 11 ≤ 6) ∧ (0 ≤ sh k 12 ∧ sh k 12 ≤ 2) ∧ (0 ≤ sh k 0 ∧ sh k 1 ≤ 16) ∧ (0 ≤ sh k 2 ∧ sh k 3 ≤ 64) ∧ (0 ≤ sh k 4 ∧ sh k 5 ≤ 2147483647) ∧ (0 ≤ sh k 6 ∧ sh k 7 ≤ 2) ∧ (0 ≤ sh k 9 ∧ sh k 10 ≤ 2147483647) ∧ (0 ≤ sh k 13 ∧ sh k 14 ≤ 1000000) := by
 intro k hk
 match k, hk with
 | 0, _ => decide
 | 1, _ => decide
 | 2, _ => decide
 | 3, _ => decide
 | 4, _ => decide
 | 5, _ => decide
 | 6, _ => decide
 | 7, _ => decide
 | 8, _ => decide
section
variable {r : Rc}
theorem OkF.nsl (h : OkF r) : r.sids.length ≤ 3 := by have := (sh_bounds (kn r) (by have := h.k8; omega)).1.2; have := h.ns; omega
theorem OkF.keyl (h : OkF r) : r.key.size ≤ 16 := by have := h.key.2; have := (sh_bounds (kn r) (by have := h.k8; omega)).2.2.2.1.2; omega
end
def intV (zs : List Int) : List Value := zs.map fun z => Value.int .i64 z
def OwnI (base : Nat) (w : World) (v : Value) (zs : List Int) : Prop := OwnV 3 base w v (intV zs)
def loV (ls : List Lo) : List Value := ls.flatMap Lo.cells
theorem loV_length (ls : List Lo) : (loV ls).length = ls.length * 3 := by
 induction ls with
 | nil => rfl
 | cons c l ih => simp only [loV, List.flatMap_cons, List.length_append, List.length_cons] at ih ⊢; rw [ih]; simp [Lo.cells]; omega
theorem loV_one (ls : List Lo) : ∀ v ∈ loV ls, v.oneCell' = true := by
 intro v hv
 obtain ⟨c, _, hv⟩ := List.mem_flatMap.1 hv
 simp only [Lo.cells, List.mem_cons, List.not_mem_nil, or_false] at hv
 rcases hv with rfl | rfl | rfl <;> rfl
theorem loV_at (ls : List Lo) : ∀ s j : Nat, j < 3 → ∀ c, ls[s]? = some c → (loV ls)[s * 3 + j]? = c.cells[j]? := by
 induction ls with
 | nil => intro s j _ c h; simp at h
 | cons c0 l ih =>
  intro s j hj c h
  have e : loV (c0 :: l) = c0.cells ++ loV l := by simp [loV]
  have h3 : c0.cells.length = 3 := rfl
  cases s with
  | zero =>
   have : c0 = c := by simpa using h
   subst this
   rw [e, Nat.zero_mul, Nat.zero_add, List.getElem?_append_left (by omega)]
  | succ s =>
   have h : l[s]? = some c := by simpa using h
   rw [e, List.getElem?_append_right (by omega), h3, show (s + 1) * 3 + j - 3 = s * 3 + j by omega]
   exact ih s j hj c h
def OwnLo (base : Nat) (w : World) (v : Value) (ls : List Lo) : Prop := w.ownsRow base 64 3 v ls.length (loV ls)
section
variable {base : Nat} {w w' : World} {v : Value} {ls : List Lo} {zs : List Int}
theorem OwnLo.nil (base : Nat) (w : World) : OwnLo base w (.slice none 0 0) [] := World.ownsRow_nil _ _ _ _
theorem OwnI.nil (base : Nat) (w : World) : OwnI base w (.slice none 0 0) [] := World.ownsRow_nil _ _ _ _
theorem OwnLo.up {S : Nat → Prop} (h : OwnLo base w v ls) (u : Up S w w') (hs : ∀ k, base ≤ k → k < w.heap.size → ¬ S k) : OwnLo base w' v ls := by
 refine ⟨h.1, ?_⟩
 rcases h.2 with hn | ⟨g, cap, cur, h1, h2, h3, h4⟩
 ·exact .inl hn
 ·have hl := (Array.getElem?_eq_some_iff.1 h3).1
  exact .inr ⟨g, cap, cur, h1, h2, (u.block g hl (hs g h2 hl)).trans h3, h4⟩
theorem OwnI.up {S : Nat → Prop} (h : OwnI base w v zs) (u : Up S w w') (hs : ∀ k, base ≤ k → k < w.heap.size → ¬ S k) : OwnI base w' v zs := OwnV.up h u hs
theorem OwnLo.bs (h : OwnLo base w v ls) : ∀ k, v.ownBlock = some k → base ≤ k := fun k hk => (World.ownsRow.lt h k hk).1
theorem OwnI.bs (h : OwnI base w v zs) : ∀ k, v.ownBlock = some k → base ≤ k := fun k hk => (World.ownsRow.lt h k hk).1
theorem OwnI.shape (h : OwnI base w v zs) : ∃ a cap, v = .slice a zs.length cap := by
 obtain ⟨a, c, e⟩ := OwnV.shape h
 exact ⟨a, c, by rw [e, intV, List.length_map]⟩
theorem OwnLo.shape (h : OwnLo base w v ls) : ∃ a cap, v = .slice a ls.length cap := by
 rcases h.2 with ⟨e, e0⟩ | ⟨g, cap, cur, e, _⟩
 ·exact ⟨none, 0, by rw [e, e0]⟩
 ·exact ⟨_, _, e⟩
theorem OwnI.row (h : OwnI base w v zs) : ∃ a c, v = .slice a zs.length c ∧ RowI w a zs := by
 obtain ⟨a, c, e⟩ := h.shape
 refine ⟨a, c, e, ?_⟩
 rcases zs with _ | ⟨z, zs⟩
 ·exact .inl rfl
 ·obtain ⟨g, cap, e1, _, hg, hc, _⟩ := OwnV.row h (by simp [intV])
  rw [e] at e1
  refine .inr ⟨g, 0, ?_, hg, fun i x hi => ?_⟩
  ·injection e1
  ·rw [Nat.zero_add]
   exact hc i _ (by rw [intV, List.getElem?_map, hi]; rfl)
theorem OwnLo.row (h : OwnLo base w v ls) : ∃ a c, v = .slice a ls.length c ∧ RowL w a ls := by
 rcases h.2 with ⟨e, e0⟩ | ⟨g, cap, cur, h1, h2, h3, h4, h5, h6, h7⟩
 ·exact ⟨none, 0, by rw [e, e0], .inl (List.eq_nil_of_length_eq_zero e0)⟩
 ·refine ⟨_, _, h1, .inr ⟨g, 0, rfl, (Array.getElem?_eq_some_iff.1 h3).1, fun i l hi j x hx => ?_⟩⟩
  have hil : i < ls.length := by
   rcases Nat.lt_or_ge i ls.length with h | h
   ·exact h
   ·rw [List.getElem?_eq_none h] at hi; cases hi
  have hj : j < 3 := by
   rcases Nat.lt_or_ge j 3 with e | e
   ·exact e
   ·rw [List.getElem?_eq_none (by exact e)] at hx; cases hx
  have e := loV_at ls i j hj l hi
  rw [← h7, List.getElem?_take, if_pos (by omega), hx] at e
  simp only [World.cell?, h3, Nat.zero_add]
  simpa using e
theorem info_lo : ∃ i z, Tryz.prog.info? 64 = some i ∧ i.zero = some z ∧ i.size = 3 ∧ i.bytes = 24 ∧ z.cells.size = 3 := by
 have h : (Tryz.prog.info? 64).map (fun i => (i.size, i.bytes, i.zero.map fun z => z.cells.size)) = some (3, 24, some 3) := by kernel_rfl
 cases e : Tryz.prog.info? 64 with
 | none => rw [e] at h; cases h
 | some i =>
  rw [e] at h
  simp only [Option.map_some, Option.some.injEq, Prod.mk.injEq, Option.map_eq_some_iff] at h
  obtain ⟨h1, h2, z, h3, h4⟩ := h
  exact ⟨i, z, rfl, h3, h1, h2, h4⟩
theorem OwnI.app (h : OwnI base w v zs) (x : Int) (ad : Addr) (hc : w.cell? ad = some (.int .i64 x)) (c : Nat) (hl : zs.length ≤ 1000) (hb : base ≤ w.heap.size) :
  ∃ v' w', (Builtin.append_ #[23, 23] 23 #[v, .slice (some ad) 1 c]).run Tryz.prog w = .ok v' w' ∧ OwnI base w' v' (zs ++ [x]) ∧ w.grownBy w' v.ownBlock := by
 obtain ⟨i0, hi, hz, hz1, hz2⟩ := info_parts info_int
 obtain ⟨v', w', hrun, g1, g2, _⟩ := run_append_own (P := Tryz.prog) w base 23 23 3 i0 _ 1 8 Tryz.underlying23 hi hz hz1 hz2 rfl (by decide) v (intV zs).length (intV zs) h ad 1 c [.int .i64 x] rfl
  (fun j u hj => by
   match j, hj with
   | 0, hj => simp at hj; subst hj; simpa [Addr.add] using hc) (fun u hu => by
   obtain rfl : u = .int .i64 x := by simpa using hu
   rfl) (by unfold maxLen; simp [intV]; omega) (by simp [intV]; omega) hb
 refine ⟨v', w', hrun, ?_, g2⟩
 show w'.ownsRow base _ 1 v' (intV (zs ++ [x])).length (intV (zs ++ [x]))
 rw [show intV (zs ++ [x]) = intV zs ++ [.int .i64 x] by simp [intV], List.length_append]
 exact g1
theorem OwnLo.app (h : OwnLo base w v ls) (x : Lo) (g : Nat) (hc : ∀ j u, x.cells[j]? = some u → w.cell? ⟨g, j, none⟩ = some u) (c : Nat) (hl : ls.length ≤ 1000) (hb : base ≤ w.heap.size) :
  ∃ v' w', (Builtin.append_ #[24, 24] 24 #[v, .slice (some ⟨g, 0, none⟩) 1 c]).run Tryz.prog w = .ok v' w' ∧ OwnLo base w' v' (ls ++ [x]) ∧ w.grownBy w' v.ownBlock := by
 obtain ⟨i0, z0, hi, hz, hz1, hz2, hz3⟩ := info_lo
 obtain ⟨v', w', hrun, g1, g2, _⟩ := run_append_own (P := Tryz.prog) w base 24 24 64 i0 z0 3 24 Tryz.underlying24 hi hz hz1 hz2 hz3 (by decide) v ls.length (loV ls) h ⟨g, 0, none⟩ 1 c x.cells rfl
  (fun j u hj => by rw [add_off, Nat.zero_add]; exact hc j u hj) (fun u hu => by
   simp only [Lo.cells, List.mem_cons, List.not_mem_nil, or_false] at hu
   rcases hu with rfl | rfl | rfl <;> rfl) (by unfold maxLen; omega) (by omega) hb
 refine ⟨v', w', hrun, ?_, g2⟩
 show w'.ownsRow base _ 3 v' (ls ++ [x]).length (loV (ls ++ [x]))
 rw [show loV (ls ++ [x]) = loV ls ++ x.cells by simp [loV], List.length_append]
 exact g1
end
theorem OwnI.grown {base : Nat} {w w' : World} {v : Value} {zs : List Int} {row : Option Nat} (h : OwnI base w v zs) (g : w.grownBy w' row) (hd : ∀ k, v.ownBlock = some k → row ≠ some k) : OwnI base w' v zs := by
 refine ⟨h.1, ?_⟩
 rcases h.2 with hn | ⟨b, cap, cur, h1, h2, h3, h4⟩
 ·exact .inl hn
 ·exact .inr ⟨b, cap, cur, h1, h2, (g.block b (Array.getElem?_eq_some_iff.1 h3).1 (fun e => hd b (by rw [h1]; rfl) e.symm)).trans h3, h4⟩
end Go.Proofs.YtepggchnhgpcnaaGreatDoor
namespace Go.Proofs.YtepggchnhgpcnaaGreatDoor
open Go.RowKit Go.Maps
set_option linter.unusedVariables false

theorem at_none {H : Type} {es : List (Lit × DataW H)} {kl : Lit} (z : DataW H) (h : es.find? (fun p => p.1.sameKey kl) = none) : (DataW.map es).atKey kl z = z := by unfold DataW.atKey; simp only [h]
theorem at_some {H : Type} {es : List (Lit × DataW H)} {kl : Lit} {p : Lit × DataW H} (z : DataW H) (h : es.find? (fun p => p.1.sameKey kl) = some p) : (DataW.map es).atKey kl z = p.2 := by unfold DataW.atKey; simp only [h]
def hv (v : Value) : Option (DataW Value × List MemPlace) := some (.held v, [])
def ent (D : DataW Value) (kl : Lit) : Option Value := match D.atKey kl .nil with | .held v => some v | _ => none
def AllHeld (D : DataW Value) : Prop := ∃ es, D = .map es ∧ ∀ p ∈ es, ∃ v, p.2 = .held v
section
variable {P : Program} {k t e : TypeId} {w : World} {b n : Nat} {D : DataW Value} {kl : Lit}
theorem held_all (h : w.ownsMap P k hv b n D) : AllHeld D := by
 obtain ⟨es, clock, hb, F, hs, rfl⟩ := h
 refine ⟨_, rfl, fun p hp => ?_⟩
 obtain ⟨x, hx, rfl⟩ := List.mem_map.1 (mem_sorted.1 hp)
 obtain ⟨y, hy⟩ := F.reads x hx
 rw [WideElems.rg_of hy]
 obtain ⟨z, hz, hz2⟩ := WideElems.rd_val hy
 refine ⟨x.val, ?_⟩
 cases hz
 exact hz2
theorem at_held (h : AllHeld D) (z : Value) : D.atKey kl (.held z) = .held ((ent D kl).getD z) ∧ has D kl = (ent D kl).isSome := by
 obtain ⟨es, rfl, h⟩ := h
 unfold ent
 rw [has_eq]
 cases hf : es.find? (fun p => p.1.sameKey kl) with
 | none =>
  rw [at_none _ hf, at_none _ hf]
  refine ⟨rfl, ?_⟩
  rw [List.any_eq_false.2 (fun p hp => by simpa using List.find?_eq_none.1 hf p hp)]
  rfl
 | some p =>
  have hp := List.mem_of_find?_eq_some hf
  obtain ⟨v, hv⟩ := h p hp
  rw [at_some _ hf, at_some _ hf, hv]
  refine ⟨rfl, ?_⟩
  rw [List.any_eq_true.2 ⟨p, hp, List.find?_some hf⟩]
  rfl
theorem ent_put (hm : IsMap D) (hk : WideAt.IsKeyLit kl) (v : Value) : ent (D.put kl (.held v)) kl = some v := by unfold ent; rw [atKey_put_same hm hk]
theorem ent_put_ne {kl' : Lit} (hne : kl' ≠ kl) (v : Value) : ent (D.put kl (.held v)) kl' = ent D kl' := by unfold ent; rw [atKey_put_other hne]
theorem ent_del : ent (D.del kl) kl = none := by unfold ent; rw [atKey_del_same]
theorem ent_del_ne {kl' : Lit} (hne : kl' ≠ kl) : ent (D.del kl) kl' = ent D kl' := by unfold ent; rw [atKey_del_other hne]
theorem ent_empty : ent (.map []) kl = none := rfl
end

abbrev ks (s : ByteArray) : Lit := .string s.data.toList
abbrev ki (x : Int) : Lit := .int .i64 x
theorem ks_inj {s s' : ByteArray} (h : ks s = ks s') : s = s' := by
 injection h with h
 exact ByteArray.ext (Array.toList_inj.1 h)
theorem ki_inj {x y : Int} (h : ki x = ki y) : x = y := by injection h
def upd {α β : Type} [DecidableEq α] (f : α → β) (k : α) (v : β) : α → β := fun x => if x = k then v else f x
section
variable {α β : Type} [DecidableEq α]
theorem upd_same (f : α → β) (k : α) (v : β) : upd f k v k = v := if_pos rfl
theorem upd_ne (f : α → β) {k x : α} (v : β) (h : x ≠ k) : upd f k v x = f x := if_neg h
end
theorem keyS : Keyed Tryz.prog 9 := string_keyed Tryz.underlying9
theorem keyI : Keyed Tryz.prog 3 := int_keyed Tryz.underlying3
theorem ofS {s : ByteArray} (h : s.size ≤ maxLen) : keyOf Tryz.prog 9 (.string s) = some (ks s) := WideMaps.keyOf_string_mk Tryz.underlying9 h
theorem ofI {x : Int} (h : (Lit.int .i64 x).wf = true) : keyOf Tryz.prog 3 (.int .i64 x) = some (ki x) := keyOf_int_mk Tryz.underlying3 h
def MapS (w : World) (b n : Nat) (f : ByteArray → Option Value) : Prop := ∃ D, w.ownsMap Tryz.prog 9 hv b n D ∧ ∀ s : ByteArray, s.size ≤ maxLen → ent D (ks s) = f s
def MapI (w : World) (b n : Nat) (g : Int → Option Value) : Prop := ∃ D, w.ownsMap Tryz.prog 3 hv b n D ∧ ∀ x : Int, (Lit.int .i64 x).wf = true → ent D (ki x) = g x
section
variable {w w' : World} {b n : Nat} {f : ByteArray → Option Value} {g : Int → Option Value}
theorem mp_block {P : Program} {k : TypeId} {D : DataW Value} {S : Nat → Prop} (h : w.ownsMap P k hv b n D) (u : Up S w w') (hs : ¬ S b) : w'.ownsMap P k hv b n D := by
 have hl := h.lt
 obtain ⟨es, clock, hb, r⟩ := h
 exact ⟨es, clock, (u.block b hl hs).trans hb, r⟩
theorem MapS.up {S : Nat → Prop} (h : MapS w b n f) (u : Up S w w') (hs : ¬ S b) : MapS w' b n f := by
 obtain ⟨D, h1, h2⟩ := h
 exact ⟨D, mp_block h1 u hs, h2⟩
theorem MapI.up {S : Nat → Prop} (h : MapI w b n g) (u : Up S w w') (hs : ¬ S b) : MapI w' b n g := by
 obtain ⟨D, h1, h2⟩ := h
 exact ⟨D, mp_block h1 u hs, h2⟩
theorem MapS.lt (h : MapS w b n f) : b < w.heap.size := by obtain ⟨D, h1, _⟩ := h; exact h1.lt
theorem MapI.lt (h : MapI w b n g) : b < w.heap.size := by obtain ⟨D, h1, _⟩ := h; exact h1.lt
theorem MapS.drew (h : MapS w b n f) : MapS w.drew b n f := h
theorem MapI.drew (h : MapI w b n g) : MapI w.drew b n g := h
theorem MapS.mono (h : MapS w b n f) {m : Nat} (hm : n ≤ m) : MapS w b m f := by obtain ⟨D, h1, h2⟩ := h; exact ⟨D, h1.mono hm, h2⟩
theorem MapI.mono (h : MapI w b n g) {m : Nat} (hm : n ≤ m) : MapI w b m g := by obtain ⟨D, h1, h2⟩ := h; exact ⟨D, h1.mono hm, h2⟩
theorem MapS.new (w : World) : MapS (w.alloc (.map #[] 0)) w.heap.size 0 fun _ => none := ⟨_, World.ownsMap_made w _ _ _, fun s _ => ent_empty⟩
theorem MapI.new (w : World) : MapI (w.alloc (.map #[] 0)) w.heap.size 0 fun _ => none := ⟨_, World.ownsMap_made w _ _ _, fun s _ => ent_empty⟩
theorem MapS.noCell (h : MapS w b n f) (o : Nat) : w.cell? ⟨b, o, none⟩ = none := by
 obtain ⟨D, ⟨es, clock, hb, _⟩, _⟩ := h
 simp [World.cell?, hb]
theorem MapI.noCell (h : MapI w b n g) (o : Nat) : w.cell? ⟨b, o, none⟩ = none := by
 obtain ⟨D, ⟨es, clock, hb, _⟩, _⟩ := h
 simp [World.cell?, hb]
theorem MapS.look2 (h : MapS w b n f) {t e : TypeId} (ht : Tryz.prog.underlying t = some (.map 9 e)) {z : Value} (hz : (zeroValue e).run Tryz.prog w = .ok z w) {s : ByteArray} (hs : s.size ≤ maxLen) :
  (Instr.lookup t (.map (some b)) (.string s) true).run Tryz.prog w = .ok (.tuple #[(f s).getD z, .bool (f s).isSome]) w := by
 obtain ⟨D, h1, h2⟩ := h
 obtain ⟨v, ps, hrun, hv'⟩ := h1.look_ok keyS ht hz (zd := .held z) (zp := []) rfl (ofS hs)
 obtain ⟨e1, e2⟩ := at_held (held_all h1) (kl := ks s) z
 rw [e1] at hv'
 rw [hrun, e2, h2 s hs]
 simp only [hv, Option.some.injEq, Prod.mk.injEq] at hv'
 rw [DataW.held.inj hv'.1, h2 s hs]
theorem MapI.look2 (h : MapI w b n g) {t e : TypeId} (ht : Tryz.prog.underlying t = some (.map 3 e)) {z : Value} (hz : (zeroValue e).run Tryz.prog w = .ok z w) {x : Int} (hx : (Lit.int .i64 x).wf = true) :
  (Instr.lookup t (.map (some b)) (.int .i64 x) true).run Tryz.prog w = .ok (.tuple #[(g x).getD z, .bool (g x).isSome]) w := by
 obtain ⟨D, h1, h2⟩ := h
 obtain ⟨v, ps, hrun, hv'⟩ := h1.look_ok keyI ht hz (zd := .held z) (zp := []) rfl (ofI hx)
 obtain ⟨e1, e2⟩ := at_held (held_all h1) (kl := ki x) z
 rw [e1] at hv'
 rw [hrun, e2, h2 x hx]
 simp only [hv, Option.some.injEq, Prod.mk.injEq] at hv'
 rw [DataW.held.inj hv'.1, h2 x hx]
theorem MapI.look1 (h : MapI w b n g) {t e : TypeId} (ht : Tryz.prog.underlying t = some (.map 3 e)) {z : Value} (hz : (zeroValue e).run Tryz.prog w = .ok z w) {x : Int} (hx : (Lit.int .i64 x).wf = true) :
  (Instr.lookup t (.map (some b)) (.int .i64 x) false).run Tryz.prog w = .ok ((g x).getD z) w := by
 obtain ⟨D, h1, h2⟩ := h
 obtain ⟨v, ps, hrun, hv'⟩ := h1.lookup keyI ht hz (zd := .held z) (zp := []) rfl (ofI hx)
 obtain ⟨e1, e2⟩ := at_held (held_all h1) (kl := ki x) z
 rw [e1] at hv'
 rw [hrun]
 simp only [hv, Option.some.injEq, Prod.mk.injEq] at hv'
 rw [DataW.held.inj hv'.1, h2 x hx]
theorem Up.of_map {b : Nat} {w w' : World} (h : w.mapTurned w' b) : Up (fun k => k = b) w w' := by
 have g := h.grown
 exact ⟨g.os, g.tape, g.output, g.size, fun k hk hs => g.block k hk (fun e => hs (by injection e))⟩
theorem MapS.put (h : MapS w b n f) {t e : TypeId} (ht : Tryz.prog.underlying t = some (.map 9 e)) (hn : n < maxLen) {s : ByteArray} (hs : s.size ≤ maxLen) (v : Value) :
  ∃ w', (Instr.mapUpdate t (.map (some b)) (.string s) v).run Tryz.prog w = .ok () w' ∧ MapS w' b (n + 1) (upd f s (some v)) ∧ Up (fun k => k = b) w w' := by
 obtain ⟨D, h1, h2⟩ := h
 obtain ⟨w', hrun, h3, h4⟩ := h1.store keyS ht hn (ofS hs) (val := v) (d := .held v) (ps := []) rfl
 refine ⟨w', hrun, ⟨_, h3, fun x hx => ?_⟩, Up.of_map h4⟩
 by_cases he : x = s
 ·subst he
  rw [upd_same, ent_put h1.isMap (by exact True.intro)]
 ·rw [upd_ne _ _ he, ent_put_ne (fun e => he (ks_inj e)), h2 x hx]
theorem MapI.put (h : MapI w b n g) {t e : TypeId} (ht : Tryz.prog.underlying t = some (.map 3 e)) (hn : n < maxLen) {x : Int} (hx : (Lit.int .i64 x).wf = true) (v : Value) :
  ∃ w', (Instr.mapUpdate t (.map (some b)) (.int .i64 x) v).run Tryz.prog w = .ok () w' ∧ MapI w' b (n + 1) (upd g x (some v)) ∧ Up (fun k => k = b) w w' := by
 obtain ⟨D, h1, h2⟩ := h
 obtain ⟨w', hrun, h3, h4⟩ := h1.store keyI ht hn (ofI hx) (val := v) (d := .held v) (ps := []) rfl
 refine ⟨w', hrun, ⟨_, h3, fun y hy => ?_⟩, Up.of_map h4⟩
 by_cases he : y = x
 ·subst he
  rw [upd_same, ent_put h1.isMap (by exact True.intro)]
 ·rw [upd_ne _ _ he, ent_put_ne (fun e => he (ki_inj e)), h2 y hy]
theorem MapS.del (h : MapS w b n f) {t e : TypeId} (ht : Tryz.prog.underlying t = some (.map 9 e)) {s : ByteArray} (hs : s.size ≤ maxLen) (ty : TypeId) :
  ∃ w', (Builtin.delete_ #[t, 9] ty #[.map (some b), .string s]).run Tryz.prog w = .ok (.tuple #[]) w' ∧ MapS w' b n (upd f s none) ∧ Up (fun k => k = b) w w' := by
 obtain ⟨D, h1, h2⟩ := h
 obtain ⟨w', hrun, h3, h4⟩ := h1.drop keyS ht (ofS hs) ty
 refine ⟨w', hrun, ⟨_, h3, fun x hx => ?_⟩, Up.of_map h4⟩
 by_cases he : x = s
 ·subst he
  rw [upd_same, ent_del]
 ·rw [upd_ne _ _ he, ent_del_ne (fun e => he (ks_inj e)), h2 x hx]
theorem MapI.del (h : MapI w b n g) {t e : TypeId} (ht : Tryz.prog.underlying t = some (.map 3 e)) {x : Int} (hx : (Lit.int .i64 x).wf = true) (ty : TypeId) :
  ∃ w', (Builtin.delete_ #[t, 3] ty #[.map (some b), .int .i64 x]).run Tryz.prog w = .ok (.tuple #[]) w' ∧ MapI w' b n (upd g x none) ∧ Up (fun k => k = b) w w' := by
 obtain ⟨D, h1, h2⟩ := h
 obtain ⟨w', hrun, h3, h4⟩ := h1.drop keyI ht (ofI hx) ty
 refine ⟨w', hrun, ⟨_, h3, fun y hy => ?_⟩, Up.of_map h4⟩
 by_cases he : y = x
 ·subst he
  rw [upd_same, ent_del]
 ·rw [upd_ne _ _ he, ent_del_ne (fun e => he (ki_inj e)), h2 y hy]
end
section
variable {w : World} {ops : Array Oper} {rest : List Oper} {o : Oper} {a : Act} {Q : Exit → Act → World → Prop}
theorem wp_put_eqv {w' : World} {K : Act → World → Prop} (m x v : Operand) (t : TypeId) (hop : o.op = Op.mapUpdate t m x v) (mv kv vv : Value) (hm : a.eval m = mv) (hx : a.eval x = kv) (hv : a.eval v = vv) (hrun : (Instr.mapUpdate t mv kv vv).run Tryz.prog w = .ok () w')
  (hK : K (a.put o.dst undef) w') : Oper.wp Tryz.prog o a w K Q := by
 unfold Oper.wp
 simp [execOp, hop, hm, hx, hv, hrun, Result.andThen]
 exact hK
theorem wpList_put_eqv {w' : World} (hg : o.guard = none) (m x v : Operand) (t : TypeId) (hop : o.op = Op.mapUpdate t m x v) (mv kv vv : Value) (hm : a.eval m = mv) (hx : a.eval x = kv) (hv : a.eval v = vv) (hrun : (Instr.mapUpdate t mv kv vv).run Tryz.prog w = .ok () w')
  (hK : wpList Tryz.prog ops Q rest (a.put o.dst undef) w') : wpList Tryz.prog ops Q (o :: rest) a w := by
 refine wpList_plain hg fun K' hK' => ?_
 exact wp_put_eqv m x v t hop mv kv vv hm hx hv hrun (hK' _ _ hK)
theorem wp_del_eqv {w' : World} {K : Act → World → Prop} (m x : Operand) (t k : TypeId) (hop : o.op = Op.call { callee := Callee.builtin Builtin.delete, args := #[m, x], argTypes := #[t, k] }) (mv kv : Value) (hm : a.eval m = mv) (hx : a.eval x = kv)
  (hrun : (Builtin.delete_ #[t, k] o.type #[mv, kv]).run Tryz.prog w = .ok (.tuple #[]) w') (hK : K (a.put o.dst (.tuple #[])) w') : Oper.wp Tryz.prog o a w K Q := by
 unfold Oper.wp
 simp [execOp, hop, resolve, invoke, builtin, hm, hx, hrun, Result.andThen]
 exact hK
theorem wpList_del_eqv {w' : World} (hg : o.guard = none) (m x : Operand) (t k : TypeId) (hop : o.op = Op.call { callee := Callee.builtin Builtin.delete, args := #[m, x], argTypes := #[t, k] }) (mv kv : Value) (hm : a.eval m = mv) (hx : a.eval x = kv)
  (hrun : (Builtin.delete_ #[t, k] o.type #[mv, kv]).run Tryz.prog w = .ok (.tuple #[]) w') (hK : wpList Tryz.prog ops Q rest (a.put o.dst (.tuple #[])) w') : wpList Tryz.prog ops Q (o :: rest) a w := by
 refine wpList_plain hg fun K' hK' => ?_
 exact wp_del_eqv m x t k hop mv kv hm hx hrun (hK' _ _ hK)
theorem step_put_eqv {w' : World} {K : Act → World → Prop} {E : Prop} (hg : o.guard = none) (m x v : Operand) (t : TypeId) (hop : o.op = Op.mapUpdate t m x v) (mv kv vv : Value) (hm : a.eval m = mv) (hx : a.eval x = kv) (hv : a.eval v = vv)
  (hrun : (Instr.mapUpdate t mv kv vv).run Tryz.prog w = .ok () w') (hK : K (a.put o.dst undef) w') : if Region.wanted o (yielded ops a.tmps) = true then Oper.wp Tryz.prog o a w K Q else E := by
 rw [if_pos (by simp [Region.wanted, hg])]
 exact wp_put_eqv m x v t hop mv kv vv hm hx hv hrun hK
end
end Go.Proofs.YtepggchnhgpcnaaGreatDoor
