/- 'Encode'. -/
import Derived.Test.YtpdkcpjofofkoaaDoorRcMath
import Derived.Lib.AppendStr
namespace Go.Proofs.YtpdkcpjofofkoaaDoor
open Go.RowKit
set_option linter.unusedVariables false

/-- The slice v is a row of the bytes z behind W0. -/
structure Bz (W0 w : World) (v : Value) (z : List Nat) : Prop where
  own : OwnB W0.heap.size w v z
  up : Up Nul W0 w
theorem Bz.nxt {W0 w w' : World} {v : Value} {z : List Nat} (h : Bz W0 w v z) (u : Up Nul w w') : Bz W0 w' v z := ⟨h.own.up u fun _ _ h => h, h.up.trans u⟩
theorem Bz.one (W0 : World) (x : Nat) (hx : x < 256) (c : Array Value) (hc : c = #[.int .u8 (x : Nat)]) : Bz W0 (W0.alloc (.cells c 5)) (.slice (some ⟨W0.heap.size, 0, none⟩) 1 1) [x] := by
  subst hc
  exact ⟨⟨⟨rfl, .inr ⟨W0.heap.size, 1, _, rfl, Nat.le_refl _, heap_alloc_new _ _, Nat.le_refl _, by unfold maxLen; omega, rfl, rfl⟩⟩, fun y hy => by simp at hy; omega⟩, (Up.refl _ _).alloc _⟩
/-- append(v, one byte). -/
theorem Bz.app {W0 w : World} {v : Value} {z : List Nat} (h : Bz W0 w v z) (x : Nat) (hx : x < 256) (hl : z.length ≤ 1000) (c : Array Value) (hc : c = #[.int .u8 (x : Nat)]) :
    ∃ v' w', (Builtin.append_ #[32, 32] 32 #[v, .slice (some ⟨w.heap.size, 0, none⟩) 1 1]).run Tryd.prog (w.alloc (.cells c 5)) = .ok v' w' ∧ Bz W0 w' v' (z ++ [x]) ∧ (∀ g, g < w.heap.size → v.ownBlock ≠ some g → w'.heap[g]? = w.heap[g]?) := by
  subst hc
  have HB : Blk (w.alloc (.cells #[.int .u8 (x : Nat)] 5)) w.heap.size [x] := Blk.new w [x] (by intro y hy; simp at hy; omega)
  obtain ⟨v', w', hrun, h1, h2, _⟩ := run_append_slw (w.alloc (.cells #[.int .u8 (x : Nat)] 5)) 32 W0.heap.size _ _ (h.own.alloc _) (some ⟨w.heap.size, 0, none⟩) 1 1 [x] (SlN.ofBlk HB (by show 1 ≤ 1000000; omega)) (by omega) (Nat.le_trans h.up.size (by simp))
  exact ⟨v', w', hrun, ⟨h1, (h.up.alloc _).grown h2 h.own.base⟩, fun g hg hne => (h2.block g (by simp; omega) fun e => hne e.symm).trans (Below.heap_alloc _ _ _ hg)⟩
/-- append(v, two bytes). -/
theorem Bz.app2 {W0 w : World} {v : Value} {z : List Nat} (h : Bz W0 w v z) (x y : Nat) (hx : x < 256) (hy : y < 256) (hl : z.length ≤ 1000) (c : Array Value) (hc : c = #[.int .u8 (x : Nat), .int .u8 (y : Nat)]) :
    ∃ v' w', (Builtin.append_ #[32, 32] 32 #[v, .slice (some ⟨w.heap.size, 0, none⟩) 2 2]).run Tryd.prog (w.alloc (.cells c 5)) = .ok v' w' ∧ Bz W0 w' v' (z ++ [x, y]) ∧ (∀ g, g < w.heap.size → v.ownBlock ≠ some g → w'.heap[g]? = w.heap[g]?) := by
  subst hc
  have HB : Blk (w.alloc (.cells #[.int .u8 (x : Nat), .int .u8 (y : Nat)] 5)) w.heap.size [x, y] := Blk.new w [x, y] (by intro y hy; simp at hy; omega)
  obtain ⟨v', w', hrun, h1, h2, _⟩ := run_append_slw (w.alloc (.cells #[.int .u8 (x : Nat), .int .u8 (y : Nat)] 5)) 32 W0.heap.size _ _ (h.own.alloc _) (some ⟨w.heap.size, 0, none⟩) 2 2 [x, y] (SlN.ofBlk HB (by show 2 ≤ 1000000; omega)) (by omega) (Nat.le_trans h.up.size (by simp))
  exact ⟨v', w', hrun, ⟨h1, (h.up.alloc _).grown h2 h.own.base⟩, fun g hg hne => (h2.block g (by simp; omega) fun e => hne e.symm).trans (Below.heap_alloc _ _ _ hg)⟩
/-- append(v, string...). -/
theorem Bz.appS {W0 w : World} {v : Value} {z : List Nat} (h : Bz W0 w v z) (s : ByteArray) (hs : s.size ≤ 1000) (hl : z.length ≤ 1000) :
    ∃ v' w', (Builtin.append_ #[32, 9] 32 #[v, .string s]).run Tryd.prog w = .ok v' w' ∧ Bz W0 w' v' (z ++ nums s) := by
  obtain ⟨i0, hi, hz0, hz1, hz2⟩ := info_parts info_u8
  obtain ⟨v', w', hrun, h1, h2, _⟩ := Lib.run_append_own_string (P := Tryd.prog) (w := w) (ty := 32) W0.heap.size 32 9 5 i0 Tryd.underlying32 Tryd.underlying9 hi hz0 hz1 hz2 v z.length _ h.own.own s (by unfold maxLen; omega) (by omega) h.up.size
  refine ⟨v', w', hrun, ⟨?_, fun x hx => ?_⟩, h.up.grown h2 h.own.base⟩
  · have e : (z ++ nums s).length = z.length + s.size := by rw [List.length_append, nums_length]
    have e2 : ((z ++ nums s).map fun (n : Nat) => Value.int .u8 (n : Int)) = (z.map fun (n : Nat) => Value.int .u8 (n : Int)) ++ Lib.strCells s := by
      rw [List.map_append]
      congr 1
      simp [nums, Lib.strCells]
    rw [e, e2]
    exact h1
  · rcases List.mem_append.1 hx with hx | hx
    · exact h.own.small x hx
    · obtain ⟨i, hi, rfl⟩ := List.mem_iff_getElem.1 hx
      have := nums_small s i
      rwa [List.getD_eq_getElem?_getD, List.getElem?_eq_getElem hi] at this
theorem Bz.ne {W0 w : World} {v : Value} {z : List Nat} (h : Bz W0 w v z) {g : Nat} (hg : w.heap.size ≤ g) : v.ownBlock ≠ some g := fun e => by
  have := (World.ownsRow.lt h.own.own g e).2
  omega
/-- An append of a string whose run is known. -/
theorem wpList_append_eqvS {w w' : World} {ops : Array Oper} {rest : List Oper} {o : Oper} {a : Act} {Q : Exit → Act → World → Prop} (hgd : o.guard = none) (s x : Operand) (t u : TypeId)
    (ho : o.op = .call { callee := .builtin .append, args := #[s, x], argTypes := #[t, u] }) (v y v' : Value) (hs : a.eval s = v) (hx : a.eval x = y) (hrun : (Builtin.append_ #[t, u] o.type #[v, y]).run Tryd.prog w = .ok v' w') (h : wpList Tryd.prog ops Q rest (a.put o.dst v') w') : wpList Tryd.prog ops Q (o :: rest) a w :=
  wpList_plain hgd fun K hK => by
    unfold Oper.wp
    simp [execOp, ho, resolve, invoke, builtin, hs, hx, hrun, Result.andThen]
    exact hK _ _ h
/-- appendWords, of a row that was told as bytes. -/
theorem Bz.words {W0 w : World} {v : Value} {z : List Nat} (h : Bz W0 w v z) (a : Option Addr) (c : Nat) (nums : List Int) (hn : RowI w a nums) (hd : nums ≠ [] → ∀ x, a = some x → v.ownBlock ≠ some x.block)
    (hl : nums.length ≤ 100) (hz : z.length ≤ 1000) (hr : ∀ x ∈ nums, 0 ≤ x ∧ x ≤ 4294967295) :
    Calls Tryd.prog 27 #[v, .slice a nums.length c] w fun e w' => ∃ v', e = .returned v' ∧ Bz W0 w' v' (z ++ wds nums) :=
  (words_any W0 w v z h.own h.up a c nums hn hd hl hz hr).mono fun e w' ⟨v', h1, h2, h3⟩ => ⟨v', h1, h2, h3⟩
theorem Bz.far {W0 w : World} {v : Value} {z : List Nat} (h : Bz W0 w v z) {a : Option Addr} {zs : List Int} (hr : RowI W0 a zs) : zs ≠ [] → ∀ x, a = some x → v.ownBlock ≠ some x.block := fun hz x hx e => by
  obtain ⟨g, o, hg, hlt, _⟩ := hr.resolve_left hz
  rw [hg] at hx
  cases hx
  have := (World.ownsRow.lt h.own.own _ e).1
  have e2 : ({ block := g, off := o, spot := none } : Addr).block = g := rfl
  omega
theorem tableN_any (t : Tb) (w : World) : Calls Tryd.prog 25 #[tbv t] w fun e w' => ∃ g, e = .returned (.slice (some ⟨g, 0, none⟩) 6 6) ∧ RowI w' (some ⟨g, 0, none⟩) t.l ∧ Up Nul w w' ∧ w.heap.size ≤ g := by
  obtain ⟨a, b, c, d, e, f⟩ := t
  have HU := hid ((Up.refl Nul w).alloc (.cells #[.int .i64 a, .int .i64 b, .int .i64 c, .int .i64 d, .int .i64 e, .int .i64 f] 25))
  have HR : Hid (∀ W : World, ∀ g, g = W.heap.size → RowI (W.alloc (.cells #[.int .i64 a, .int .i64 b, .int .i64 c, .int .i64 d, .int .i64 e, .int .i64 f] 3)) (some ⟨g, 0, none⟩) (Tb.l ⟨a, b, c, d, e, f⟩)) := fun W g hg => by
    subst hg
    refine .inr ⟨W.heap.size, 0, rfl, by simp, fun i x hi => ?_⟩
    rw [Nat.zero_add]
    match i, hi with
    | 0, hi => cases hi; exact World.cell?_alloc_new _ _ _ 0
    | 1, hi => cases hi; exact World.cell?_alloc_new _ _ _ 1
    | 2, hi => cases hi; exact World.cell?_alloc_new _ _ _ 2
    | 3, hi => cases hi; exact World.cell?_alloc_new _ _ _ 3
    | 4, hi => cases hi; exact World.cell?_alloc_new _ _ _ 4
    | 5, hi => cases hi; exact World.cell?_alloc_new _ _ _ 5
  show Calls Tryd.prog 25 #[.agg #[.int .i64 a, .int .i64 b, .int .i64 c, .int .i64 d, .int .i64 e, .int .i64 f]] w _
  go_enter Tryd.func25, Tryd.ntmps25
  go_wp2
  go_ret
  exact ⟨_, rfl, HR.out _ _ (by simp), HU.out.alloc _, by simp⟩
theorem enc_no (r : Rc) (sv lv : Value) (w : World) (H : ∀ W, Up Nul w W → Calls Tryd.prog 8 #[rv r sv lv] W fun e w' => e = .returned (.bool false) ∧ Up Nul W w') :
    Calls Tryd.prog 9 #[rv r sv lv] w fun e w' => e = .returned (.tuple #[.slice none 0 0, .bool false]) ∧ Up Nul w w' := by
  have HK := hid H
  clear H
  obtain ⟨kind, key, n, sid, sids, colour, locs, ⟨a, b, c, d, e, f⟩⟩ := r
  have HU := hid ((Up.refl Nul w).alloc (.cells #[.int .i64 kind, .string key, .int .i64 n, .int .i64 sid, sv, .int .i64 colour, lv, .int .i64 a, .int .i64 b, .int .i64 c, .int .i64 d, .int .i64 e, .int .i64 f] 27))
  show Calls Tryd.prog 9 #[.agg #[.int .i64 kind, .string key, .int .i64 n, .int .i64 sid, sv, .int .i64 colour, lv, .int .i64 a, .int .i64 b, .int .i64 c, .int .i64 d, .int .i64 e, .int .i64 f]] w _
  go_enter Tryd.func9, Tryd.ntmps9
  go_wp2_with fail
  refine (HK.out _ HU.out).mono ?_
  rintro e w1 ⟨rfl, u1⟩
  have U1 := hid (HU.out.trans u1)
  clear u1
  go_wp2
  go_ret2
  exact ⟨rfl, U1.out⟩
end Go.Proofs.YtpdkcpjofofkoaaDoor
