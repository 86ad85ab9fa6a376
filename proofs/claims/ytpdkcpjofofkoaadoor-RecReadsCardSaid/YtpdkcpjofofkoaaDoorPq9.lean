/- 'Ok' tells which records may be. -/
import Derived.Test.YtpdkcpjofofkoaaDoorPkTidy
import Derived.Test.YtpdkcpjofofkoaaDoorPq5
import Derived.Test.YtpdkcpjofofkoaaDoorPq6
import Derived.Test.YtpdkcpjofofkoaaDoorPq7
import Derived.Test.YtpdkcpjofofkoaaDoorPq8
import Derived.Test.YtpdkcpjofofkoaaDoorPq1
import Derived.Lib.AppendStr
import Derived.Test.YtpdkcpjofofkoaaDoorPq3
namespace Go.Proofs.YtpdkcpjofofkoaaDoor
open Go.RowKit
set_option linter.unusedVariables false

theorem ok_core (w : World) (s : ByteArray) (n sid co : Int) (sa : Option Addr) (ns cs : Nat) (la : Option Addr) (nl cl : Nat) (t : Tb) (k : Nat) (c1 c2 c3 c4 c5 c6 c7 c8 c9 c10 : Bool) (hk : spn 1 8 (k : Int) = true) (hS : Shp w)
  (H : OkC w s n sid co sa ns cs la nl cl t k c1 c2 c3 c4 c5 c6 c7 c8 c9 c10) :
  Calls Tryd.prog 8 #[.agg #[.int .i64 (k : Nat), .string s, .int .i64 n, .int .i64 sid, .slice sa ns cs, .int .i64 co, .slice la nl cl, .int .i64 t.hot, .int .i64 t.warm, .int .i64 t.gap, .int .i64 t.add, .int .i64 t.top, .int .i64 t.half]] w
   fun e w' => e = .returned (.bool (c1 && c2 && c3 && c4 && c5 && c6 && c7 && c8 && c9 && c10)) ∧ Up Nul w w' := by
 cases e1 : c1 with
 | false => subst e1; exact ok_case1 w s n sid co sa ns cs la nl cl t k false c2 c3 c4 c5 c6 c7 c8 c9 c10 hk hS rfl H
 | true =>
 cases e2 : c2 with
 | false => subst e2; subst e1; exact ok_case2 w s n sid co sa ns cs la nl cl t k true false c3 c4 c5 c6 c7 c8 c9 c10 hk hS rfl rfl H
 | true =>
 cases e3 : c3 with
 | false => subst e3; subst e1; subst e2; exact ok_case3 w s n sid co sa ns cs la nl cl t k true true false c4 c5 c6 c7 c8 c9 c10 hk hS rfl rfl rfl H
 | true =>
 cases e4 : c4 with
 | false => subst e4; subst e1; subst e2; subst e3; exact ok_case4 w s n sid co sa ns cs la nl cl t k true true true false c5 c6 c7 c8 c9 c10 hk hS rfl rfl rfl rfl H
 | true =>
 cases e5 : c5 with
 | false => subst e5; subst e1; subst e2; subst e3; subst e4; exact ok_case5 w s n sid co sa ns cs la nl cl t k true true true true false c6 c7 c8 c9 c10 hk hS rfl rfl rfl rfl rfl H
 | true =>
 cases e6 : c6 with
 | false => subst e6; subst e1; subst e2; subst e3; subst e4; subst e5; exact ok_case6 w s n sid co sa ns cs la nl cl t k true true true true true false c7 c8 c9 c10 hk hS rfl rfl rfl rfl rfl rfl H
 | true =>
 cases e7 : c7 with
 | false => subst e7; subst e1; subst e2; subst e3; subst e4; subst e5; subst e6; exact ok_case7 w s n sid co sa ns cs la nl cl t k true true true true true true false c8 c9 c10 hk hS rfl rfl rfl rfl rfl rfl rfl H
 | true =>
 cases e8 : c8 with
 | false => subst e8; subst e1; subst e2; subst e3; subst e4; subst e5; subst e6; subst e7; exact ok_case8 w s n sid co sa ns cs la nl cl t k true true true true true true true false c9 c10 hk hS rfl rfl rfl rfl rfl rfl rfl rfl H
 | true =>
 cases e9 : c9 with
 | false => subst e9; subst e1; subst e2; subst e3; subst e4; subst e5; subst e6; subst e7; subst e8; exact ok_case9 w s n sid co sa ns cs la nl cl t k true true true true true true true true false c10 hk hS rfl rfl rfl rfl rfl rfl rfl rfl rfl H
 | true =>
 subst e1; subst e2; subst e3; subst e4; subst e5; subst e6; subst e7; subst e8; subst e9; exact ok_case10 w s n sid co sa ns cs la nl cl t k true true true true true true true true true c10 hk hS rfl rfl rfl rfl rfl rfl rfl rfl rfl H
theorem ok_bad (r : Rc) (sv lv : Value) (w : World) (h : spn 1 8 r.kind = false) : Calls Tryd.prog 8 #[rv r sv lv] w fun e w' => e = .returned (.bool false) ∧ Up Nul w w' := by
 have HK := hid (fun W => kind_any r.kind W)
 rw [h] at HK
 clear h
 obtain ⟨kind, key, n, sid, sids, colour, locs, ⟨a, b, c, d, e, f⟩⟩ := r
 have HU := hid ((Up.refl Nul w).alloc (.cells #[.int .i64 kind, .string key, .int .i64 n, .int .i64 sid, sv, .int .i64 colour, lv, .int .i64 a, .int .i64 b, .int .i64 c, .int .i64 d, .int .i64 e, .int .i64 f] 27))
 show Calls Tryd.prog 8 #[.agg #[.int .i64 kind, .string key, .int .i64 n, .int .i64 sid, sv, .int .i64 colour, lv, .int .i64 a, .int .i64 b, .int .i64 c, .int .i64 d, .int .i64 e, .int .i64 f]] w _
 have hsv : sv.cells = #[sv] ∨ True := .inr trivial
 go_enter Tryd.func8, Tryd.ntmps8
 go_wp2_with fail
 refine (HK.out _).mono ?_
 rintro e w1 ⟨rfl, u1⟩
 have U1 := hid (HU.out.trans u1)
 clear u1
 go_wp2
 go_ret
 exact ⟨rfl, U1.out⟩
theorem rowI_one {W : World} {g : Nat} {x : Int} (h : W.cell? ⟨g, 0, none⟩ = some (.int .i64 x)) : RowI W (some ⟨g, 0, none⟩) [x] := .inr ⟨g, 0, rfl, lt_of_cell h, fun i y hi => by
 match i, hi with
 | 0, hi => cases hi; exact h⟩
theorem ok_any (r : Rc) (sa la : Option Addr) (sc lc : Nat) (w : World) (hS : Shp w) (hr : RH w r sa la) (hk : r.key.size ≤ 100000) :
    Calls Tryd.prog 8 #[rv r (.slice sa r.sids.length sc) (.slice la r.locs.length lc)] w fun e w' => e = .returned (.bool (okR r)) ∧ Up Nul w w' := by
  cases hb : spn 1 8 r.kind with
  | false =>
    refine (ok_bad r _ _ w hb).mono ?_
    rintro e w' ⟨rfl, u⟩
    exact ⟨by unfold okR; rw [hb]; rfl, u⟩
  | true =>
    have hk8 := spn_iff.1 hb
    have hkk : r.kind = ((kn r : Nat) : Int) := by unfold kn; omega
    have hB := sh_bounds (kn r) (by unfold kn; omega)
    have hb2 : spn 1 8 ((kn r : Nat) : Int) = true := by rw [← hkk]; exact hb
    have H := ok_core w r.key r.n r.sid r.colour sa r.sids.length sc la r.locs.length lc r.t (kn r) _ _ _ _ _ _ _ (((r.locs.length : Nat) : Int) == sh (kn r) 11 + sh (kn r) 12 * ((nz r.sids : Nat) : Int)) (r.locs.all lok) _ hb2 hS
      { h1 := fun W u g hg => holds_any _ _ _ 1 [((r.key.size : Nat) : Int)] W (rowI_one hg) (by simp)
        h2 := fun W => plain_any r.key W hk
        h3 := fun W u g hg => holds_any _ _ _ 1 [r.n] W (rowI_one hg) (by simp)
        h4 := fun W u g hg => holds_any _ _ _ 1 [r.sid] W (rowI_one hg) (by simp)
        h5 := fun W u g hg => holds_any _ _ _ 1 [r.colour] W (rowI_one hg) (by simp)
        h6 := rfl
        h7 := fun W u => holds_any _ _ sa sc r.sids W (hr.s.nxt u) hr.ns
        h8 := fun e => ⟨_, rfl, fun W u => locsOf_any (kn r) _ _ sa sc r.sids W (hr.s.nxt u) (by have e := beq_iff_eq.1 e; have := hB.1.2; omega) rfl rfl hB.2.1.1 (by have := hB.2.1.2; omega) hB.2.2.1.1 hB.2.2.1.2⟩
        h9 := fun W u => by
          have := lcont_any W la lc r.locs (hr.l.nxt u) hr.nl (fun l => ! lok l) (fun x _ W _ => nowhere_any x W)
          refine this.mono ?_
          rintro e w' ⟨rfl, u⟩
          exact ⟨by rw [List.all_eq_not_any_not (l := r.locs) (p := lok), Bool.not_not], u⟩
        h10 := fun W g h => holds_any _ _ _ 6 r.t.l W h (by simp [Tb.l]) }
    show Calls Tryd.prog 8 #[.agg #[.int .i64 r.kind, .string r.key, .int .i64 r.n, .int .i64 r.sid, .slice sa r.sids.length sc, .int .i64 r.colour, .slice la r.locs.length lc, .int .i64 r.t.hot, .int .i64 r.t.warm, .int .i64 r.t.gap, .int .i64 r.t.add, .int .i64 r.t.top, .int .i64 r.t.half]] w _
    rw [hkk]
    refine H.mono ?_
    rintro e w' ⟨rfl, u⟩
    exact ⟨by unfold okR; rw [hb]; rfl, u⟩
end Go.Proofs.YtpdkcpjofofkoaaDoor
namespace Go.Proofs.YtpdkcpjofofkoaaDoor
open Go.RowKit
set_option linter.unusedVariables false

/-- The slice v is a row of the bytes z behind W0. -/
structure Bz (W0 w : World) (v : Value) (z : List Nat) : Prop where
 own : OwnB W0.heap.size w v z
 up : Up Nul W0 w
theorem Bz.nxt {W0 w w' : World} {v : Value} {z : List Nat} (h : Bz W0 w v z) (u : Up Nul w w') : Bz W0 w' v z := ⟨h.own.up u fun _ _ h => h, h.up.trans u⟩
theorem Bz.one (W0 : World) (x : Nat) (hx : x < 256) (c : Array Value) (hc : c = #[.int .u8 (x : Nat)]) : Bz W0 (W0.alloc (.cells c 5)) (.slice (some ⟨W0.heap.size, 0, none⟩) 1 1) [x] := by
 subst hc
 exact ⟨⟨⟨rfl, .inr ⟨W0.heap.size, 1, _, rfl, Nat.le_refl _, heap_alloc_new _ _, Nat.le_refl _, by unfold maxLen; omega, rfl, rfl⟩⟩, fun y hy => by simp at hy; omega⟩, (Up.refl _ _).alloc _⟩
/-- append(v, one byte). -/
theorem Bz.app {W0 w : World} {v : Value} {z : List Nat} (h : Bz W0 w v z) (x : Nat) (hx : x < 256) (hl : z.length ≤ 1000) (c : Array Value) (hc : c = #[.int .u8 (x : Nat)]) :
  ∃ v' w', (Builtin.append_ #[32, 32] 32 #[v, .slice (some ⟨w.heap.size, 0, none⟩) 1 1]).run Tryd.prog (w.alloc (.cells c 5)) = .ok v' w' ∧ Bz W0 w' v' (z ++ [x]) ∧ (∀ g, g < w.heap.size → v.ownBlock ≠ some g → w'.heap[g]? = w.heap[g]?) := by
 subst hc
 have HB : Blk (w.alloc (.cells #[.int .u8 (x : Nat)] 5)) w.heap.size [x] := Blk.new w [x] (by intro y hy; simp at hy; omega)
 obtain ⟨v', w', hrun, h1, h2, _⟩ := run_append_slw (w.alloc (.cells #[.int .u8 (x : Nat)] 5)) 32 W0.heap.size _ _ (h.own.alloc _) (some ⟨w.heap.size, 0, none⟩) 1 1 [x] (SlN.ofBlk HB (by show 1 ≤ 1000000; omega)) (by omega) (Nat.le_trans h.up.size (by simp))
 exact ⟨v', w', hrun, ⟨h1, (h.up.alloc _).grown h2 h.own.base⟩, fun g hg hne => (h2.block g (by simp; omega) fun e => hne e.symm).trans (Below.heap_alloc _ _ _ hg)⟩
/-- append(v, two bytes). -/
theorem Bz.app2 {W0 w : World} {v : Value} {z : List Nat} (h : Bz W0 w v z) (x y : Nat) (hx : x < 256) (hy : y < 256) (hl : z.length ≤ 1000) (c : Array Value) (hc : c = #[.int .u8 (x : Nat), .int .u8 (y : Nat)]) :
  ∃ v' w', (Builtin.append_ #[32, 32] 32 #[v, .slice (some ⟨w.heap.size, 0, none⟩) 2 2]).run Tryd.prog (w.alloc (.cells c 5)) = .ok v' w' ∧ Bz W0 w' v' (z ++ [x, y]) ∧ (∀ g, g < w.heap.size → v.ownBlock ≠ some g → w'.heap[g]? = w.heap[g]?) := by
 subst hc
 have HB : Blk (w.alloc (.cells #[.int .u8 (x : Nat), .int .u8 (y : Nat)] 5)) w.heap.size [x, y] := Blk.new w [x, y] (by intro y hy; simp at hy; omega)
 obtain ⟨v', w', hrun, h1, h2, _⟩ := run_append_slw (w.alloc (.cells #[.int .u8 (x : Nat), .int .u8 (y : Nat)] 5)) 32 W0.heap.size _ _ (h.own.alloc _) (some ⟨w.heap.size, 0, none⟩) 2 2 [x, y] (SlN.ofBlk HB (by show 2 ≤ 1000000; omega)) (by omega) (Nat.le_trans h.up.size (by simp))
 exact ⟨v', w', hrun, ⟨h1, (h.up.alloc _).grown h2 h.own.base⟩, fun g hg hne => (h2.block g (by simp; omega) fun e => hne e.symm).trans (Below.heap_alloc _ _ _ hg)⟩
/-- append(v, string...). -/
theorem Bz.appS {W0 w : World} {v : Value} {z : List Nat} (h : Bz W0 w v z) (s : ByteArray) (hs : s.size ≤ 1000) (hl : z.length ≤ 1000) :
  ∃ v' w', (Builtin.append_ #[32, 9] 32 #[v, .string s]).run Tryd.prog w = .ok v' w' ∧ Bz W0 w' v' (z ++ nums s) := by
 obtain ⟨i0, hi, hz0, hz1, hz2⟩ := info_parts info_u8
 obtain ⟨v', w', hrun, h1, h2, _⟩ := Lib.run_append_own_string (P := Tryd.prog) (w := w) (ty := 32) W0.heap.size 32 9 5 i0 Tryd.underlying32 Tryd.underlying9 hi hz0 hz1 hz2 v z.length _ h.own.own s (by unfold maxLen; omega) (by omega) h.up.size
 refine ⟨v', w', hrun, ⟨?_, fun x hx => ?_⟩, h.up.grown h2 h.own.base⟩
 ·have e : (z ++ nums s).length = z.length + s.size := by rw [List.length_append, nums_length]
  have e2 : ((z ++ nums s).map fun (n : Nat) => Value.int .u8 (n : Int)) = (z.map fun (n : Nat) => Value.int .u8 (n : Int)) ++ Lib.strCells s := by
   rw [List.map_append]
   congr 1
   simp [nums, Lib.strCells]
  rw [e, e2]
  exact h1
 ·rcases List.mem_append.1 hx with hx | hx
  ·exact h.own.small x hx
  ·obtain ⟨i, hi, rfl⟩ := List.mem_iff_getElem.1 hx
   have := nums_small s i
   rwa [List.getD_eq_getElem?_getD, List.getElem?_eq_getElem hi] at this
theorem Bz.ne {W0 w : World} {v : Value} {z : List Nat} (h : Bz W0 w v z) {g : Nat} (hg : w.heap.size ≤ g) : v.ownBlock ≠ some g := fun e => by
 have := (World.ownsRow.lt h.own.own g e).2
 omega
/-- An append of a string whose run is known. -/
theorem wpList_append_eqvS {w w' : World} {ops : Array Oper} {rest : List Oper} {o : Oper} {a : Act} {Q : Exit → Act → World → Prop} (hgd : o.guard = none) (s x : Operand) (t u : TypeId)
  (ho : o.op = .call { callee := .builtin .append, args := #[s, x], argTypes := #[t, u] }) (v y v' : Value) (hs : a.eval s = v) (hx : a.eval x = y) (hrun : (Builtin.append_ #[t, u] o.type #[v, y]).run Tryd.prog w = .ok v' w') (h : wpList Tryd.prog ops Q rest (a.put o.dst v') w') : wpList Tryd.prog ops Q (o :: rest) a w :=
 wpList_plain hgd fun K hK => by
  unfold Oper.wp
  simp [execOp, ho, resolve, invoke, builtin, hs, hx, hrun, Result.andThen]
  exact hK _ _ h
/-- appendWords, of a row that was told as bytes. -/
theorem Bz.words {W0 w : World} {v : Value} {z : List Nat} (h : Bz W0 w v z) (a : Option Addr) (c : Nat) (nums : List Int) (hn : RowI w a nums) (hd : nums ≠ [] → ∀ x, a = some x → v.ownBlock ≠ some x.block)
  (hl : nums.length ≤ 100) (hz : z.length ≤ 1000) (hr : ∀ x ∈ nums, 0 ≤ x ∧ x ≤ 4294967295) :
  Calls Tryd.prog 27 #[v, .slice a nums.length c] w fun e w' => ∃ v', e = .returned v' ∧ Bz W0 w' v' (z ++ wds nums) :=
 (words_any W0 w v z h.own h.up a c nums hn hd hl hz hr).mono fun e w' ⟨v', h1, h2, h3⟩ => ⟨v', h1, h2, h3⟩
theorem Bz.far {W0 w : World} {v : Value} {z : List Nat} (h : Bz W0 w v z) {a : Option Addr} {zs : List Int} (hr : RowI W0 a zs) : zs ≠ [] → ∀ x, a = some x → v.ownBlock ≠ some x.block := fun hz x hx e => by
 obtain ⟨g, o, hg, hlt, _⟩ := hr.resolve_left hz
 rw [hg] at hx
 cases hx
 have := (World.ownsRow.lt h.own.own _ e).1
 have e2 : ({ block := g, off := o, spot := none } : Addr).block = g := rfl
 omega
theorem tableN_any (t : Tb) (w : World) : Calls Tryd.prog 25 #[tbv t] w fun e w' => ∃ g, e = .returned (.slice (some ⟨g, 0, none⟩) 6 6) ∧ RowI w' (some ⟨g, 0, none⟩) t.l ∧ Up Nul w w' ∧ w.heap.size ≤ g := by
 obtain ⟨a, b, c, d, e, f⟩ := t
 have HU := hid ((Up.refl Nul w).alloc (.cells #[.int .i64 a, .int .i64 b, .int .i64 c, .int .i64 d, .int .i64 e, .int .i64 f] 25))
 have HR : Hid (∀ W : World, ∀ g, g = W.heap.size → RowI (W.alloc (.cells #[.int .i64 a, .int .i64 b, .int .i64 c, .int .i64 d, .int .i64 e, .int .i64 f] 3)) (some ⟨g, 0, none⟩) (Tb.l ⟨a, b, c, d, e, f⟩)) := fun W g hg => by
  subst hg
  refine .inr ⟨W.heap.size, 0, rfl, by simp, fun i x hi => ?_⟩
  rw [Nat.zero_add]
  match i, hi with
  | 0, hi => cases hi; exact World.cell?_alloc_new _ _ _ 0
  | 1, hi => cases hi; exact World.cell?_alloc_new _ _ _ 1
  | 2, hi => cases hi; exact World.cell?_alloc_new _ _ _ 2
  | 3, hi => cases hi; exact World.cell?_alloc_new _ _ _ 3
  | 4, hi => cases hi; exact World.cell?_alloc_new _ _ _ 4
  | 5, hi => cases hi; exact World.cell?_alloc_new _ _ _ 5
 show Calls Tryd.prog 25 #[.agg #[.int .i64 a, .int .i64 b, .int .i64 c, .int .i64 d, .int .i64 e, .int .i64 f]] w _
 go_enter Tryd.func25, Tryd.ntmps25
 go_wp2
 go_ret
 exact ⟨_, rfl, HR.out _ _ (by simp), HU.out.alloc _, by simp⟩
theorem enc_no (r : Rc) (sv lv : Value) (w : World) (H : ∀ W, Up Nul w W → Calls Tryd.prog 8 #[rv r sv lv] W fun e w' => e = .returned (.bool false) ∧ Up Nul W w') :
  Calls Tryd.prog 9 #[rv r sv lv] w fun e w' => e = .returned (.tuple #[.slice none 0 0, .bool false]) ∧ Up Nul w w' := by
 have HK := hid H
 clear H
 obtain ⟨kind, key, n, sid, sids, colour, locs, ⟨a, b, c, d, e, f⟩⟩ := r
 have HU := hid ((Up.refl Nul w).alloc (.cells #[.int .i64 kind, .string key, .int .i64 n, .int .i64 sid, sv, .int .i64 colour, lv, .int .i64 a, .int .i64 b, .int .i64 c, .int .i64 d, .int .i64 e, .int .i64 f] 27))
 show Calls Tryd.prog 9 #[.agg #[.int .i64 kind, .string key, .int .i64 n, .int .i64 sid, sv, .int .i64 colour, lv, .int .i64 a, .int .i64 b, .int .i64 c, .int .i64 d, .int .i64 e, .int .i64 f]] w _
 go_enter Tryd.func9, Tryd.ntmps9
 go_wp2_with fail
 refine (HK.out _ HU.out).mono ?_
 rintro e w1 ⟨rfl, u1⟩
 have U1 := hid (HU.out.trans u1)
 clear u1
 go_wp2
 go_ret2
 exact ⟨rfl, U1.out⟩
end Go.Proofs.YtpdkcpjofofkoaaDoor
set_option maxRecDepth 100000
namespace Go.Proofs.YtpdkcpjofofkoaaDoor
open Go.RowKit
set_option linter.unusedVariables false
set_option maxHeartbeats 8000000 in
theorem rok8 (r : Rc) (sa la : Option Addr) (sc lc : Nat) (w : World) (hR : RH w r sa la) (hK : r.key.size ≤ 100000) (hk : r.kind = 8) :
  Calls Tryd.prog 11 #[rv r (.slice sa r.sids.length sc) (.slice la r.locs.length lc)] w fun e w' => e = .returned (.bool (okR r)) ∧ Up Nul w w' := by
 obtain ⟨R, HE0⟩ : ∃ R, R = okR r := ⟨_, rfl⟩
 rw [← HE0]
 have HE := hid HE0
 have HR := hid hR
 have HK1 := hid hk
 have HKS := hid hK
 have HI := hid (okF8 hk)
 clear hR hk hK HE0
 obtain ⟨W1, hW1⟩ : ∃ W, W = w.alloc (.cells (rcellsL r (.slice sa r.sids.length sc) (.slice la r.locs.length lc)) 27) := ⟨_, rfl⟩
 have U1 : Hid (Up Nul w W1) := by show Up _ _ _; rw [hW1]; exact (Up.refl Nul w).alloc _
 have B1 : Hid (RB W1 w.heap.size r (.slice sa r.sids.length sc) (.slice la r.locs.length lc)) := by show RB _ _ _ _ _; rw [hW1]; exact RB.new _ _ _ _
 go_enter Tryd.func11, Tryd.ntmps11
 go_upto_region 1 with fail
 rw [← hW1]
 clear hW1
 obtain ⟨p, hpe⟩ : ∃ p, p = w.heap.size := ⟨_, rfl⟩
 rw [← hpe] at B1 ⊢
 clear hpe
 have x0 := B1.out.cells.1
 have hk := HK1.out
 go_wp2_with fail
 refine (in_any _ _ _ _).mono ?_
 rintro e w2 ⟨rfl, rfl⟩
 rw [show spn 1 8 8 = true from by decide]
 go_wp2_with fail
 refine (names8 _).mono ?_
 rintro e w2 ⟨rfl, u2⟩
 go_upto_region 4 with fail
 obtain ⟨W4, hW4⟩ : ∃ W, W = w2.alloc (.cells #[.bool (nmB 8 0), .bool (nmB 8 1), .bool (nmB 8 2), .bool (nmB 8 3), .bool (nmB 8 4)] 63) := ⟨_, rfl⟩
 have u4 : Up Nul w2 W4 := by rw [hW4]; exact (Up.refl Nul w2).alloc _
 have hq : W4.heap[w2.heap.size]? = some (.cells #[.bool false, .bool false, .bool false, .bool false, .bool true] 63 (0, 0)) := by rw [hW4]; exact heap_alloc_new _ _
 have HQ : Hid (∀ W, Up Nul W4 W → W.heap[w2.heap.size]? = some (.cells #[.bool false, .bool false, .bool false, .bool false, .bool true] 63 (0, 0))) := fun W u => (u.block _ (Array.getElem?_eq_some_iff.1 hq).1 id).trans hq
 have B4 := hid (B1.out.nxt (u2.trans u4))
 have U4 := hid (U1.out.trans (u2.trans u4))
 rw [← hW4]
 clear hW4 hq u2 u4 B1 U1 x0
 generalize w2.heap.size = q at HQ ⊢
 obtain ⟨n0, n1, n2, n3, n4⟩ := b5_cells (HQ.out _ (Up.refl Nul W4))
 obtain ⟨x0, x1, x2, x3, x4, x5, x6, x7, x8, x9, x10, x11, x12⟩ := B4.out.cells
 go_wp2_with fail
 all_goals first | (go_ret; refine ⟨by rw [HE.out, okR_no (fun F => by obtain ⟨i1, i2, i3, i4, i5, i6, i7, i8, i9, i10, i11, i12, i13, i14, i15⟩ := HI.out.1 F; first | omega | (have hz : r.key.size = 0 := (by omega); exact absurd (key_nil.2 hz) (by assumption)))]; rfl, U4.out⟩) | skip
 have hks : r.key.size = 0 := key_nil.1 (by assumption)
 have HKB : Hid ((0 ≤ ((r.key.size : Nat) : Int) ∧ ((r.key.size : Nat) : Int) ≤ 0) ∧ ∀ c ∈ nums r.key, 33 ≤ c ∧ c ≤ 126) := ⟨⟨by omega, by omega⟩, key_none hks⟩
 refine (in_any _ _ _ _).mono ?_
 rintro e w' ⟨rfl, rfl⟩
 rw [show spn 0 2 0 = true from by decide]
 go_wp2_with fail
 have HB : Hid ((0 ≤ r.n ∧ r.n ≤ 0) ∧ (0 ≤ r.sid ∧ r.sid ≤ 0) ∧ (0 ≤ r.colour ∧ r.colour ≤ 0)) := ⟨⟨by omega, by omega⟩, ⟨by omega, by omega⟩, ⟨by omega, by omega⟩⟩
 refine (sids8 _).mono ?_
 rintro e w' ⟨rfl, rfl⟩
 rw [show sdN 8 = 0 from rfl, show lcN 8 = 0 from rfl]
 cases hb : (((r.sids.length : Nat) : Int) != 0) with
 | true =>
  have HNS : Hid (¬ ((r.sids.length : Nat) : Int) = 0) := by simpa [Hid] using hb
  go_wp2_with fail
  go_ret
  refine ⟨by rw [HE.out, okR_no (fun F => by obtain ⟨i1, i2, i3, i4, i5, i6, i7, i8, i9, i10, i11, i12, i13, i14, i15⟩ := HI.out.1 F; exact HNS.out i6)]; rfl, U4.out⟩
 | false =>
 have HNS : Hid (((r.sids.length : Nat) : Int) = 0) := by simpa [Hid] using hb
 go_wp2_with fail
 clear hb
 obtain ⟨ns, hns⟩ : ∃ ns, r.sids.length = ns := ⟨_, rfl⟩
 have HNN := hid hns
 rw [hns] at x4
 have hn3 : (ns : Int) ≤ 3 := by have := HNS.out; rw [hns] at this; omega
 clear hns
 go_loopw [5, 7] (fun l i wr => ∃ t : Nat, i = .int .i64 (t : Nat) ∧ t ≤ ns ∧ l = .int .i64 0 ∧ (∀ x ∈ r.sids.take t, 1 ≤ x ∧ x ≤ 2147483647) ∧ wr = w') (fun _ i _ => ns - (intOf i).toNat)
 case atStart => exact ⟨0, rfl, Nat.zero_le _, rfl, fun x hx => by simp at hx, by trivial⟩
 case round =>
  obtain ⟨t, rfl, ht, rfl, hp, rfl⟩ := hrel
  have HP := hid hp
  clear hp
  have i0 : (0 : Int) ≤ (t : Int) := by omega
  by_cases hd : t < ns
  ·have j1 : (t : Int) < (ns : Int) := by omega
   obtain ⟨x, hx⟩ : ∃ x, r.sids[t]? = some x := ⟨_, List.getElem?_eq_getElem (by rw [HNN.out]; exact hd)⟩
   rcases HR.out.s.nxt U4.out with e0 | ⟨g, o, rfl, hg, hrow⟩
   ·rw [e0] at hx; simp at hx
   have hcx := hrow t x hx
   have HX := hid hx
   have HL := hid hd
   clear hx hrow hg hd ht
   go_wp2_with fail
   refine (in_any _ _ _ _).mono ?_
   rintro e w'' ⟨rfl, rfl⟩
   cases hb : spn 1 2147483647 x with
   | false =>
    have HB2 := hid (spn_no hb)
    go_wp2_with fail
    go_ret
    refine ⟨by rw [HE.out, okR_no (fun F => by obtain ⟨i1, i2, i3, i4, i5, i6, i7, i8, i9, i10, i11, i12, i13, i14, i15⟩ := HI.out.1 F; have := i7 x (List.mem_of_getElem? HX.out); have := HB2.out; have h0 : r.sids = [] := List.eq_nil_of_length_eq_zero (by omega); rw [h0] at HX; exact absurd HX.out (by simp))]; rfl, U4.out⟩
   | true =>
    have HB2 := hid (spn_iff.1 hb)
    clear hb
    have HP2 : Hid (∀ y ∈ r.sids.take (t + 1), 1 ≤ y ∧ y ≤ 2147483647) := fun y hy => by
     rw [List.take_add_one, HX.out, List.mem_append] at hy
     rcases hy with hy | hy
     ·exact HP.out y hy
     ·have : y = x := by simpa using hy
      rw [this]; exact HB2.out
    go_wp2_with fail
    go_roundw
    case rel => exact ⟨t + 1, by go_num, HL.out, rfl, HP2.out, by trivial⟩
    case measure => have := HL.out; simp [intOf]; omega
  ·obtain rfl : t = ns := by omega
   have HP3 : Hid (∀ y ∈ r.sids, 1 ≤ y ∧ y ≤ 2147483647) := fun y hy => HP.out y (by rw [List.take_of_length_le (by rw [HNN.out]; omega)]; exact hy)
   skip
   have j1 : ¬ (t : Int) < (t : Int) := by omega
   clear hd
   cases hb : (((r.locs.length : Nat) : Int) != 0) with
   | true =>
    have HNL : Hid (¬ ((r.locs.length : Nat) : Int) = 0) := by simpa [Hid] using hb
    go_wp2_with fail
    go_ret
    refine ⟨by rw [HE.out, okR_no (fun F => by obtain ⟨i1, i2, i3, i4, i5, i6, i7, i8, i9, i10, i11, i12, i13, i14, i15⟩ := HI.out.1 F; exact HNL.out (by rw [i8]; omega))]; rfl, U4.out⟩
   | false =>
   have HNL : Hid (((r.locs.length : Nat) : Int) = 0) := by simpa [Hid] using hb
   go_wp2_with fail
   clear hb
   obtain ⟨nl, hnl⟩ : ∃ nl, r.locs.length = nl := ⟨_, rfl⟩
   have HNM := hid hnl
   have hl12 : (nl : Int) ≤ 12 := by have := HNL.out; rw [hnl] at this; omega
   clear hnl x0 x1 x2 x3 x4 x5 x6 x7 x8 x9 x10 x11 x12 n0 n1 n2 n3 n4
   go_loopw [8] (fun i wr => ∃ t : Nat, i = .int .i64 (t : Nat) ∧ t ≤ nl ∧ Hid (∀ l ∈ r.locs.take t, (0 ≤ l.d ∧ l.d ≤ 23) ∧ (0 ≤ l.s ∧ l.s ≤ 63) ∧ 1 ≤ l.i ∧ l.i ≤ 2147483647) ∧ RB wr p r (.slice sa r.sids.length sc) (.slice la r.locs.length lc) ∧ Up Nul w wr) (fun i _ => nl - (intOf i).toNat)
   case atStart => exact ⟨0, rfl, Nat.zero_le _, hid fun x hx => by simp at hx, B4.out, U4.out⟩
   case round =>
    obtain ⟨t2, rfl, ht2, HPL, hb2, hu2⟩ := hrel
    have B5 := hid hb2
    have U5 := hid hu2
    clear hb2 hu2
    have x6 := B5.out.cells.2.2.2.2.2.2.1
    rw [HNM.out] at x6
    have i2 : (0 : Int) ≤ (t2 : Int) := by omega
    have i3 : (t2 : Int) ≤ 12 := by omega
    by_cases hd2 : t2 < nl
    ·have j2 : (t2 : Int) < (nl : Int) := by omega
     obtain ⟨l, hl⟩ : ∃ l, r.locs[t2]? = some l := ⟨_, List.getElem?_eq_getElem (by rw [HNM.out]; exact hd2)⟩
     rcases HR.out.l.nxt U5.out with e0 | ⟨g, o, rfl, hg, hrow⟩
     ·rw [e0] at hl; simp at hl
     have y0 := hrow t2 l hl 0 (.int .i64 l.d) rfl
     have y1 := hrow t2 l hl 1 (.int .i64 l.s) rfl
     have y2 := hrow t2 l hl 2 (.int .i64 l.i) rfl
     simp only [Nat.add_zero] at y0
     have HX2 := hid hl
     have HL2 := hid hd2
     clear hl hrow hd2 ht2
     go_wp2_with fail
     refine (in_any _ _ _ _).mono ?_
     rintro e w6 ⟨rfl, rfl⟩
     cases hb : spn 0 23 l.d with
     | false =>
      have HB2 := hid (spn_no hb)
      go_wp2_with fail
      go_ret
      refine ⟨by rw [HE.out, okR_no (fun F => by obtain ⟨i1, i2, i3, i4, i5, i6, i7, i8, i9, i10, i11, i12, i13, i14, i15⟩ := HI.out.1 F; exact HB2.out (i9 l (List.mem_of_getElem? HX2.out)).1)]; rfl, U5.out.alloc _⟩
     | true =>
     have HB2 := hid (spn_iff.1 hb)
     clear hb
     go_wp2_with fail
     refine (in_any _ _ _ _).mono ?_
     rintro e w6 ⟨rfl, rfl⟩
     cases hb : spn 0 63 l.s with
     | false =>
      have HB3 := hid (spn_no hb)
      go_wp2_with fail
      go_ret
      refine ⟨by rw [HE.out, okR_no (fun F => by obtain ⟨i1, i2, i3, i4, i5, i6, i7, i8, i9, i10, i11, i12, i13, i14, i15⟩ := HI.out.1 F; exact HB3.out (i9 l (List.mem_of_getElem? HX2.out)).2.1)]; rfl, U5.out.alloc _⟩
     | true =>
     have HB3 := hid (spn_iff.1 hb)
     clear hb
     go_wp2_with fail
     refine (in_any _ _ _ _).mono ?_
     rintro e w6 ⟨rfl, rfl⟩
     cases hb : spn 1 2147483647 l.i with
     | false =>
      have HB4 := hid (spn_no hb)
      go_wp2_with fail
      go_ret
      refine ⟨by rw [HE.out, okR_no (fun F => by obtain ⟨i1, i2, i3, i4, i5, i6, i7, i8, i9, i10, i11, i12, i13, i14, i15⟩ := HI.out.1 F; exact HB4.out (i9 l (List.mem_of_getElem? HX2.out)).2.2)]; rfl, U5.out.alloc _⟩
     | true =>
     have HB4 := hid (spn_iff.1 hb)
     clear hb
     have HP2 : Hid (∀ y ∈ r.locs.take (t2 + 1), (0 ≤ y.d ∧ y.d ≤ 23) ∧ (0 ≤ y.s ∧ y.s ≤ 63) ∧ 1 ≤ y.i ∧ y.i ≤ 2147483647) := fun y hy => by
      rw [List.take_add_one, HX2.out, List.mem_append] at hy
      rcases hy with hy | hy
      ·exact HPL.out y hy
      ·have : y = l := by simpa using hy
       rw [this]; exact ⟨HB2.out, HB3.out, HB4.out⟩
     go_wp2_with fail
     go_roundw
     case rel => exact ⟨t2 + 1, by go_num, HL2.out, HP2, B5.out.nxt ((Up.refl Nul _).alloc _), U5.out.alloc _⟩
     case measure => have := HL2.out; simp [intOf]; omega
    ·obtain rfl : t2 = nl := by omega
     have HPL3 : Hid (∀ y ∈ r.locs, (0 ≤ y.d ∧ y.d ≤ 23) ∧ (0 ≤ y.s ∧ y.s ≤ 63) ∧ 1 ≤ y.i ∧ y.i ≤ 2147483647) := fun y hy => HPL.out y (by rw [List.take_of_length_le (by rw [HNM.out]; omega)]; exact hy)
     have j2 : ¬ (t2 : Int) < (t2 : Int) := by omega
     clear hd2 ht2
     obtain ⟨_, _, _, _, _, _, _, x7, x8, x9, x10, x11, x12⟩ := B5.out.cells
     go_wp2_with fail
     refine (tables_any r.t _).mono ?_
     rintro e w7 ⟨rfl, u7⟩
     go_upto_region 30 with fail
     obtain ⟨W8, hW8⟩ : ∃ W, W = w7.alloc (.cells #[.int .i64 r.t.hot, .int .i64 r.t.warm, .int .i64 r.t.gap, .int .i64 r.t.add, .int .i64 r.t.top, .int .i64 r.t.half] 67) := ⟨_, rfl⟩
     have HC8 : Hid (∀ (i : Nat) (x : Int), r.t.l[i]? = some x → W8.cell? ⟨w7.heap.size, i, none⟩ = some (.int .i64 x)) := by rw [hW8]; exact i6_cells (heap_alloc_new _ _)
     have U8 : Hid (Up Nul w W8) := by show Up _ _ _; rw [hW8]; exact (U5.out.trans u7).alloc _
     first | rw [← hW8] | (have hW9 := hW8; simp only [tb0] at hW9; rw [← hW9]; clear hW9)
     clear hW8 u7 x6 x7 x8 x9 x10 x11 x12
     generalize w7.heap.size = q6 at HC8 ⊢
     go_wp2_with fail
     go_loopw [11] (fun i wr => ∃ t : Nat, i = .int .i64 (t : Nat) ∧ t ≤ 6 ∧ Hid (∀ x ∈ r.t.l.take t, 0 ≤ x ∧ x ≤ 1000000) ∧ wr = W8) (fun i _ => 6 - (intOf i).toNat)
     case atStart => exact ⟨0, rfl, by omega, hid fun x hx => by simp at hx, by trivial⟩
     case round =>
      obtain ⟨t3, rfl, ht3, HPT, rfl⟩ := hrel
      have i4 : (0 : Int) ≤ (t3 : Int) := by omega
      by_cases hd3 : t3 < 6
      ·have j3 : (t3 : Int) < 6 := by omega
       obtain ⟨x, hx⟩ : ∃ x, r.t.l[t3]? = some x := ⟨_, List.getElem?_eq_getElem (by simpa [Tb.l] using hd3)⟩
       have hcx := HC8.out t3 x hx
       have HX3 := hid hx
       have HL3 := hid hd3
       clear hx hd3 ht3
       go_wp2_with fail
       refine (in_any _ _ _ _).mono ?_
       rintro e w9 ⟨rfl, rfl⟩
       cases hb : spn 0 1000000 x with
       | false =>
        have HB5 := hid (spn_no hb)
        go_wp2_with fail
        go_ret
        refine ⟨by rw [HE.out, okR_no (fun F => by obtain ⟨i1, i2, i3, i4, i5, i6, i7, i8, i9, i10, i11, i12, i13, i14, i15⟩ := HI.out.1 F; have hm := List.mem_of_getElem? HX3.out; exact HB5.out (t_bounds hm ⟨i10, i11, i12, i13, i14, i15⟩))]; rfl, U8.out⟩
       | true =>
       have HB5 := hid (spn_iff.1 hb)
       clear hb
       have HP5 : Hid (∀ y ∈ r.t.l.take (t3 + 1), 0 ≤ y ∧ y ≤ 1000000) := fun y hy => by
        rw [List.take_add_one, HX3.out, List.mem_append] at hy
        rcases hy with hy | hy
        ·exact HPT.out y hy
        ·have : y = x := by simpa using hy
         rw [this]; exact HB5.out
       go_wp2_with fail
       go_roundw
       case rel => exact ⟨t3 + 1, by go_num, HL3.out, HP5, by trivial⟩
       case measure => have := HL3.out; simp [intOf]; omega
      ·obtain rfl : t3 = 6 := by omega
       have HPT6 : Hid (∀ x ∈ r.t.l, 0 ≤ x ∧ x ≤ 1000000) := fun x hx => HPT.out x (by rw [List.take_of_length_le (by simp [Tb.l])]; exact hx)
       clear hd3 ht3
       go_wp2_with fail
       go_ret
       refine ⟨by rw [HE.out, okR_iff.2 (HI.out.2 ⟨HKB.out.1, HKB.out.2, HB.out.1, HB.out.2.1, HB.out.2.2, HNS.out, (fun x hx => by have h0 : r.sids = [] := List.eq_nil_of_length_eq_zero (by have := HNS.out; omega); rw [h0] at hx; cases hx), by have := HNL.out; omega, HPL3.out, HPT6.out _ (by simp [Tb.l]), HPT6.out _ (by simp [Tb.l]), HPT6.out _ (by simp [Tb.l]), HPT6.out _ (by simp [Tb.l]), HPT6.out _ (by simp [Tb.l]), HPT6.out _ (by simp [Tb.l])⟩)]; rfl, U8.out⟩

end Go.Proofs.YtpdkcpjofofkoaaDoor
