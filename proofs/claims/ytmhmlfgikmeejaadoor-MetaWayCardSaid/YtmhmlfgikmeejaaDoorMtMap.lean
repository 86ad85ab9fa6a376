/- Maps: what is at each key, told by a function. -/
import Derived.Test.YtmhmlfgikmeejaaDoorMtLo
import Derived.Maps.OwnSet
import Derived.Maps.Ext
namespace Go.Proofs.YtmhmlfgikmeejaaDoor
open Go.RowKit Go.Maps
set_option linter.unusedVariables false

theorem at_none {H : Type} {es : List (Lit × DataW H)} {kl : Lit} (z : DataW H) (h : es.find? (fun p => p.1.sameKey kl) = none) : (DataW.map es).atKey kl z = z := by unfold DataW.atKey; simp only [h]
theorem at_some {H : Type} {es : List (Lit × DataW H)} {kl : Lit} {p : Lit × DataW H} (z : DataW H) (h : es.find? (fun p => p.1.sameKey kl) = some p) : (DataW.map es).atKey kl z = p.2 := by unfold DataW.atKey; simp only [h]
/-- A value in a map is read as itself. -/
def hv (v : Value) : Option (DataW Value × List MemPlace) := some (.held v, [])
/-- What is at a key. -/
def ent (D : DataW Value) (kl : Lit) : Option Value := match D.atKey kl .nil with | .held v => some v | _ => none
def AllHeld (D : DataW Value) : Prop := ∃ es, D = .map es ∧ ∀ p ∈ es, ∃ v, p.2 = .held v
section
variable {P : Program} {k t e : TypeId} {w : World} {b n : Nat} {D : DataW Value} {kl : Lit}
theorem held_all (h : w.ownsMap P k hv b n D) : AllHeld D := by
  obtain ⟨es, clock, hb, F, hs, rfl⟩ := h
  refine ⟨_, rfl, fun p hp => ?_⟩
  obtain ⟨x, hx, rfl⟩ := List.mem_map.1 (mem_sorted.1 hp)
  obtain ⟨y, hy⟩ := F.reads x hx
  rw [WideElems.rg_of hy]
  obtain ⟨z, hz, hz2⟩ := WideElems.rd_val hy
  refine ⟨x.val, ?_⟩
  cases hz
  exact hz2
theorem at_held (h : AllHeld D) (z : Value) : D.atKey kl (.held z) = .held ((ent D kl).getD z) ∧ has D kl = (ent D kl).isSome := by
  obtain ⟨es, rfl, h⟩ := h
  unfold ent
  rw [has_eq]
  cases hf : es.find? (fun p => p.1.sameKey kl) with
  | none =>
    rw [at_none _ hf, at_none _ hf]
    refine ⟨rfl, ?_⟩
    rw [List.any_eq_false.2 (fun p hp => by simpa using List.find?_eq_none.1 hf p hp)]
    rfl
  | some p =>
    have hp := List.mem_of_find?_eq_some hf
    obtain ⟨v, hv⟩ := h p hp
    rw [at_some _ hf, at_some _ hf, hv]
    refine ⟨rfl, ?_⟩
    rw [List.any_eq_true.2 ⟨p, hp, List.find?_some hf⟩]
    rfl
theorem ent_put (hm : IsMap D) (hk : WideAt.IsKeyLit kl) (v : Value) : ent (D.put kl (.held v)) kl = some v := by unfold ent; rw [atKey_put_same hm hk]
theorem ent_put_ne {kl' : Lit} (hne : kl' ≠ kl) (v : Value) : ent (D.put kl (.held v)) kl' = ent D kl' := by unfold ent; rw [atKey_put_other hne]
theorem ent_del : ent (D.del kl) kl = none := by unfold ent; rw [atKey_del_same]
theorem ent_del_ne {kl' : Lit} (hne : kl' ≠ kl) : ent (D.del kl) kl' = ent D kl' := by unfold ent; rw [atKey_del_other hne]
theorem ent_empty : ent (.map []) kl = none := rfl
end

/-! ### A map of strings, of ints -/
abbrev ks (s : ByteArray) : Lit := .string s.data.toList
abbrev ki (x : Int) : Lit := .int .i64 x
theorem ks_inj {s s' : ByteArray} (h : ks s = ks s') : s = s' := by
  injection h with h
  exact ByteArray.ext (Array.toList_inj.1 h)
theorem ki_inj {x y : Int} (h : ki x = ki y) : x = y := by injection h
def upd {α β : Type} [DecidableEq α] (f : α → β) (k : α) (v : β) : α → β := fun x => if x = k then v else f x
section
variable {α β : Type} [DecidableEq α]
theorem upd_same (f : α → β) (k : α) (v : β) : upd f k v k = v := if_pos rfl
theorem upd_ne (f : α → β) {k x : α} (v : β) (h : x ≠ k) : upd f k v x = f x := if_neg h
end
theorem keyS : Keyed Tryd.prog 9 := string_keyed Tryd.underlying9
theorem keyI : Keyed Tryd.prog 3 := int_keyed Tryd.underlying3
theorem ofS {s : ByteArray} (h : s.size ≤ maxLen) : keyOf Tryd.prog 9 (.string s) = some (ks s) := WideMaps.keyOf_string_mk Tryd.underlying9 h
theorem ofI {x : Int} (h : (Lit.int .i64 x).wf = true) : keyOf Tryd.prog 3 (.int .i64 x) = some (ki x) := keyOf_int_mk Tryd.underlying3 h
/-- Block b is a map of at most n strings; f tells what is at each. -/
def MapS (w : World) (b n : Nat) (f : ByteArray → Option Value) : Prop := ∃ D, w.ownsMap Tryd.prog 9 hv b n D ∧ ∀ s : ByteArray, s.size ≤ maxLen → ent D (ks s) = f s
def MapI (w : World) (b n : Nat) (g : Int → Option Value) : Prop := ∃ D, w.ownsMap Tryd.prog 3 hv b n D ∧ ∀ x : Int, (Lit.int .i64 x).wf = true → ent D (ki x) = g x
section
variable {w w' : World} {b n : Nat} {f : ByteArray → Option Value} {g : Int → Option Value}
theorem mp_block {P : Program} {k : TypeId} {D : DataW Value} {S : Nat → Prop} (h : w.ownsMap P k hv b n D) (u : Up S w w') (hs : ¬ S b) : w'.ownsMap P k hv b n D := by
  have hl := h.lt
  obtain ⟨es, clock, hb, r⟩ := h
  exact ⟨es, clock, (u.block b hl hs).trans hb, r⟩
theorem MapS.up {S : Nat → Prop} (h : MapS w b n f) (u : Up S w w') (hs : ¬ S b) : MapS w' b n f := by
  obtain ⟨D, h1, h2⟩ := h
  exact ⟨D, mp_block h1 u hs, h2⟩
theorem MapI.up {S : Nat → Prop} (h : MapI w b n g) (u : Up S w w') (hs : ¬ S b) : MapI w' b n g := by
  obtain ⟨D, h1, h2⟩ := h
  exact ⟨D, mp_block h1 u hs, h2⟩
theorem MapS.lt (h : MapS w b n f) : b < w.heap.size := by obtain ⟨D, h1, _⟩ := h; exact h1.lt
theorem MapI.lt (h : MapI w b n g) : b < w.heap.size := by obtain ⟨D, h1, _⟩ := h; exact h1.lt
theorem MapS.drew (h : MapS w b n f) : MapS w.drew b n f := h
theorem MapI.drew (h : MapI w b n g) : MapI w.drew b n g := h
theorem MapS.mono (h : MapS w b n f) {m : Nat} (hm : n ≤ m) : MapS w b m f := by obtain ⟨D, h1, h2⟩ := h; exact ⟨D, h1.mono hm, h2⟩
theorem MapI.mono (h : MapI w b n g) {m : Nat} (hm : n ≤ m) : MapI w b m g := by obtain ⟨D, h1, h2⟩ := h; exact ⟨D, h1.mono hm, h2⟩
theorem MapS.new (w : World) : MapS (w.alloc (.map #[] 0)) w.heap.size 0 fun _ => none := ⟨_, World.ownsMap_made w _ _ _, fun s _ => ent_empty⟩
theorem MapI.new (w : World) : MapI (w.alloc (.map #[] 0)) w.heap.size 0 fun _ => none := ⟨_, World.ownsMap_made w _ _ _, fun s _ => ent_empty⟩
/-- A map is no row of cells. -/
theorem MapS.noCell (h : MapS w b n f) (o : Nat) : w.cell? ⟨b, o, none⟩ = none := by
  obtain ⟨D, ⟨es, clock, hb, _⟩, _⟩ := h
  simp [World.cell?, hb]
theorem MapI.noCell (h : MapI w b n g) (o : Nat) : w.cell? ⟨b, o, none⟩ = none := by
  obtain ⟨D, ⟨es, clock, hb, _⟩, _⟩ := h
  simp [World.cell?, hb]
/-- 'm[k]', with 'ok' or without. -/
theorem MapS.look2 (h : MapS w b n f) {t e : TypeId} (ht : Tryd.prog.underlying t = some (.map 9 e)) {z : Value} (hz : (zeroValue e).run Tryd.prog w = .ok z w) {s : ByteArray} (hs : s.size ≤ maxLen) :
    (Instr.lookup t (.map (some b)) (.string s) true).run Tryd.prog w = .ok (.tuple #[(f s).getD z, .bool (f s).isSome]) w := by
  obtain ⟨D, h1, h2⟩ := h
  obtain ⟨v, ps, hrun, hv'⟩ := h1.look_ok keyS ht hz (zd := .held z) (zp := []) rfl (ofS hs)
  obtain ⟨e1, e2⟩ := at_held (held_all h1) (kl := ks s) z
  rw [e1] at hv'
  rw [hrun, e2, h2 s hs]
  simp only [hv, Option.some.injEq, Prod.mk.injEq] at hv'
  rw [DataW.held.inj hv'.1, h2 s hs]
theorem MapI.look2 (h : MapI w b n g) {t e : TypeId} (ht : Tryd.prog.underlying t = some (.map 3 e)) {z : Value} (hz : (zeroValue e).run Tryd.prog w = .ok z w) {x : Int} (hx : (Lit.int .i64 x).wf = true) :
    (Instr.lookup t (.map (some b)) (.int .i64 x) true).run Tryd.prog w = .ok (.tuple #[(g x).getD z, .bool (g x).isSome]) w := by
  obtain ⟨D, h1, h2⟩ := h
  obtain ⟨v, ps, hrun, hv'⟩ := h1.look_ok keyI ht hz (zd := .held z) (zp := []) rfl (ofI hx)
  obtain ⟨e1, e2⟩ := at_held (held_all h1) (kl := ki x) z
  rw [e1] at hv'
  rw [hrun, e2, h2 x hx]
  simp only [hv, Option.some.injEq, Prod.mk.injEq] at hv'
  rw [DataW.held.inj hv'.1, h2 x hx]
theorem MapI.look1 (h : MapI w b n g) {t e : TypeId} (ht : Tryd.prog.underlying t = some (.map 3 e)) {z : Value} (hz : (zeroValue e).run Tryd.prog w = .ok z w) {x : Int} (hx : (Lit.int .i64 x).wf = true) :
    (Instr.lookup t (.map (some b)) (.int .i64 x) false).run Tryd.prog w = .ok ((g x).getD z) w := by
  obtain ⟨D, h1, h2⟩ := h
  obtain ⟨v, ps, hrun, hv'⟩ := h1.lookup keyI ht hz (zd := .held z) (zp := []) rfl (ofI hx)
  obtain ⟨e1, e2⟩ := at_held (held_all h1) (kl := ki x) z
  rw [e1] at hv'
  rw [hrun]
  simp only [hv, Option.some.injEq, Prod.mk.injEq] at hv'
  rw [DataW.held.inj hv'.1, h2 x hx]
theorem Up.of_map {b : Nat} {w w' : World} (h : w.mapTurned w' b) : Up (fun k => k = b) w w' := by
  have g := h.grown
  exact ⟨g.os, g.tape, g.output, g.size, fun k hk hs => g.block k hk (fun e => hs (by injection e))⟩
/-- 'm[k] = v'. -/
theorem MapS.put (h : MapS w b n f) {t e : TypeId} (ht : Tryd.prog.underlying t = some (.map 9 e)) (hn : n < maxLen) {s : ByteArray} (hs : s.size ≤ maxLen) (v : Value) :
    ∃ w', (Instr.mapUpdate t (.map (some b)) (.string s) v).run Tryd.prog w = .ok () w' ∧ MapS w' b (n + 1) (upd f s (some v)) ∧ Up (fun k => k = b) w w' := by
  obtain ⟨D, h1, h2⟩ := h
  obtain ⟨w', hrun, h3, h4⟩ := h1.store keyS ht hn (ofS hs) (val := v) (d := .held v) (ps := []) rfl
  refine ⟨w', hrun, ⟨_, h3, fun x hx => ?_⟩, Up.of_map h4⟩
  by_cases he : x = s
  · subst he
    rw [upd_same, ent_put h1.isMap (by exact True.intro)]
  · rw [upd_ne _ _ he, ent_put_ne (fun e => he (ks_inj e)), h2 x hx]
theorem MapI.put (h : MapI w b n g) {t e : TypeId} (ht : Tryd.prog.underlying t = some (.map 3 e)) (hn : n < maxLen) {x : Int} (hx : (Lit.int .i64 x).wf = true) (v : Value) :
    ∃ w', (Instr.mapUpdate t (.map (some b)) (.int .i64 x) v).run Tryd.prog w = .ok () w' ∧ MapI w' b (n + 1) (upd g x (some v)) ∧ Up (fun k => k = b) w w' := by
  obtain ⟨D, h1, h2⟩ := h
  obtain ⟨w', hrun, h3, h4⟩ := h1.store keyI ht hn (ofI hx) (val := v) (d := .held v) (ps := []) rfl
  refine ⟨w', hrun, ⟨_, h3, fun y hy => ?_⟩, Up.of_map h4⟩
  by_cases he : y = x
  · subst he
    rw [upd_same, ent_put h1.isMap (by exact True.intro)]
  · rw [upd_ne _ _ he, ent_put_ne (fun e => he (ki_inj e)), h2 y hy]
/-- 'delete(m, k)'. -/
theorem MapS.del (h : MapS w b n f) {t e : TypeId} (ht : Tryd.prog.underlying t = some (.map 9 e)) {s : ByteArray} (hs : s.size ≤ maxLen) (ty : TypeId) :
    ∃ w', (Builtin.delete_ #[t, 9] ty #[.map (some b), .string s]).run Tryd.prog w = .ok (.tuple #[]) w' ∧ MapS w' b n (upd f s none) ∧ Up (fun k => k = b) w w' := by
  obtain ⟨D, h1, h2⟩ := h
  obtain ⟨w', hrun, h3, h4⟩ := h1.drop keyS ht (ofS hs) ty
  refine ⟨w', hrun, ⟨_, h3, fun x hx => ?_⟩, Up.of_map h4⟩
  by_cases he : x = s
  · subst he
    rw [upd_same, ent_del]
  · rw [upd_ne _ _ he, ent_del_ne (fun e => he (ks_inj e)), h2 x hx]
theorem MapI.del (h : MapI w b n g) {t e : TypeId} (ht : Tryd.prog.underlying t = some (.map 3 e)) {x : Int} (hx : (Lit.int .i64 x).wf = true) (ty : TypeId) :
    ∃ w', (Builtin.delete_ #[t, 3] ty #[.map (some b), .int .i64 x]).run Tryd.prog w = .ok (.tuple #[]) w' ∧ MapI w' b n (upd g x none) ∧ Up (fun k => k = b) w w' := by
  obtain ⟨D, h1, h2⟩ := h
  obtain ⟨w', hrun, h3, h4⟩ := h1.drop keyI ht (ofI hx) ty
  refine ⟨w', hrun, ⟨_, h3, fun y hy => ?_⟩, Up.of_map h4⟩
  by_cases he : y = x
  · subst he
    rw [upd_same, ent_del]
  · rw [upd_ne _ _ he, ent_del_ne (fun e => he (ki_inj e)), h2 y hy]
end
/-! ### At the operation -/
section
variable {w : World} {ops : Array Oper} {rest : List Oper} {o : Oper} {a : Act} {Q : Exit → Act → World → Prop}
theorem wpList_look_eqv (hg : o.guard = none) (m x : Operand) (t : TypeId) (c : Bool) (hop : o.op = Op.lookup t m x c) (mv kv v : Value) (hm : a.eval m = mv) (hx : a.eval x = kv) (hrun : (Instr.lookup t mv kv c).run Tryd.prog w = .ok v w)
    (hK : wpList Tryd.prog ops Q rest (a.put o.dst v) w) : wpList Tryd.prog ops Q (o :: rest) a w := by
  refine wpList_plain hg fun K' hK' => ?_
  unfold Oper.wp
  simp [execOp, hop, hm, hx, hrun, Result.andThen]
  exact hK' _ _ hK
theorem wp_put_eqv {w' : World} {K : Act → World → Prop} (m x v : Operand) (t : TypeId) (hop : o.op = Op.mapUpdate t m x v) (mv kv vv : Value) (hm : a.eval m = mv) (hx : a.eval x = kv) (hv : a.eval v = vv) (hrun : (Instr.mapUpdate t mv kv vv).run Tryd.prog w = .ok () w')
    (hK : K (a.put o.dst undef) w') : Oper.wp Tryd.prog o a w K Q := by
  unfold Oper.wp
  simp [execOp, hop, hm, hx, hv, hrun, Result.andThen]
  exact hK
theorem wpList_put_eqv {w' : World} (hg : o.guard = none) (m x v : Operand) (t : TypeId) (hop : o.op = Op.mapUpdate t m x v) (mv kv vv : Value) (hm : a.eval m = mv) (hx : a.eval x = kv) (hv : a.eval v = vv) (hrun : (Instr.mapUpdate t mv kv vv).run Tryd.prog w = .ok () w')
    (hK : wpList Tryd.prog ops Q rest (a.put o.dst undef) w') : wpList Tryd.prog ops Q (o :: rest) a w := by
  refine wpList_plain hg fun K' hK' => ?_
  exact wp_put_eqv m x v t hop mv kv vv hm hx hv hrun (hK' _ _ hK)
theorem wp_del_eqv {w' : World} {K : Act → World → Prop} (m x : Operand) (t k : TypeId) (hop : o.op = Op.call { callee := Callee.builtin Builtin.delete, args := #[m, x], argTypes := #[t, k] }) (mv kv : Value) (hm : a.eval m = mv) (hx : a.eval x = kv)
    (hrun : (Builtin.delete_ #[t, k] o.type #[mv, kv]).run Tryd.prog w = .ok (.tuple #[]) w') (hK : K (a.put o.dst (.tuple #[])) w') : Oper.wp Tryd.prog o a w K Q := by
  unfold Oper.wp
  simp [execOp, hop, resolve, invoke, builtin, hm, hx, hrun, Result.andThen]
  exact hK
theorem wpList_del_eqv {w' : World} (hg : o.guard = none) (m x : Operand) (t k : TypeId) (hop : o.op = Op.call { callee := Callee.builtin Builtin.delete, args := #[m, x], argTypes := #[t, k] }) (mv kv : Value) (hm : a.eval m = mv) (hx : a.eval x = kv)
    (hrun : (Builtin.delete_ #[t, k] o.type #[mv, kv]).run Tryd.prog w = .ok (.tuple #[]) w') (hK : wpList Tryd.prog ops Q rest (a.put o.dst (.tuple #[])) w') : wpList Tryd.prog ops Q (o :: rest) a w := by
  refine wpList_plain hg fun K' hK' => ?_
  exact wp_del_eqv m x t k hop mv kv hm hx hrun (hK' _ _ hK)
/-- .. in a drawn region. -/
theorem step_put_eqv {w' : World} {K : Act → World → Prop} {E : Prop} (hg : o.guard = none) (m x v : Operand) (t : TypeId) (hop : o.op = Op.mapUpdate t m x v) (mv kv vv : Value) (hm : a.eval m = mv) (hx : a.eval x = kv) (hv : a.eval v = vv)
    (hrun : (Instr.mapUpdate t mv kv vv).run Tryd.prog w = .ok () w') (hK : K (a.put o.dst undef) w') : if Region.wanted o (yielded ops a.tmps) = true then Oper.wp Tryd.prog o a w K Q else E := by
  rw [if_pos (by simp [Region.wanted, hg])]
  exact wp_put_eqv m x v t hop mv kv vv hm hx hv hrun hK
theorem step_del_eqv {w' : World} {K : Act → World → Prop} {E : Prop} (hg : o.guard = none) (m x : Operand) (t k : TypeId) (hop : o.op = Op.call { callee := Callee.builtin Builtin.delete, args := #[m, x], argTypes := #[t, k] }) (mv kv : Value) (hm : a.eval m = mv) (hx : a.eval x = kv)
    (hrun : (Builtin.delete_ #[t, k] o.type #[mv, kv]).run Tryd.prog w = .ok (.tuple #[]) w') (hK : K (a.put o.dst (.tuple #[])) w') : if Region.wanted o (yielded ops a.tmps) = true then Oper.wp Tryd.prog o a w K Q else E := by
  rw [if_pos (by simp [Region.wanted, hg])]
  exact wp_del_eqv m x t k hop mv kv hm hx hrun hK
end
end Go.Proofs.YtmhmlfgikmeejaaDoor
