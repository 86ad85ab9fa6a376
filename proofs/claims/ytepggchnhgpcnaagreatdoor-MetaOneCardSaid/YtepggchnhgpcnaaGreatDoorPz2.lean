/- What is known of blobs, as a function: blobs by their keys, Stripes by their Sids. -/
import Derived.Test.YtepggchnhgpcnaaGreatDoorPkTidy
import Derived.Test.YtepggchnhgpcnaaGreatDoorPz1
import Derived.ChangeKeysEq
import Derived.BigRegion
namespace Go.Proofs.YtepggchnhgpcnaaGreatDoor
open Go.RowKit Go.Maps
set_option linter.unusedVariables false

structure Bl where
 n : Int
 sid : Int
 part : Int
structure St where
 kind : Int
 colour : Int
 k0 : ByteArray
 k1 : ByteArray
 k2 : ByteArray
 locs : List Lo
structure MM where
 b : ByteArray → Option Bl
 s : Int → Option St
 last : Int
 t : Tb
abbrev noK : ByteArray := ⟨#[]⟩
abbrev blv (b : Bl) : Value := .agg #[.int .i64 b.n, .int .i64 b.sid, .int .i64 b.part]
abbrev stv (s : St) (v : Value) : Value := .agg #[.int .i64 s.kind, .int .i64 s.colour, .string s.k0, .string s.k1, .string s.k2, v]
def MM.new : MM := ⟨fun _ => none, fun _ => none, 0, tb0⟩
def St.off (s : St) (t : Int) : St := if t = 0 then { s with k0 := noK } else if t = 1 then { s with k1 := noK } else { s with k2 := noK }
def St.dead (s : St) : Bool := decide (s.k0 = noK ∧ s.k1 = noK ∧ s.k2 = noK)
def lay1 (b : ByteArray → Option Bl) (k : ByteArray) (sid part : Int) : ByteArray → Option Bl := match b k with | none => b | some x => upd b k (some ⟨x.n, sid, part⟩)
def MM.lay (M : MM) (sid : Int) (s : St) : MM := { M with s := upd M.s sid (some s), b := lay1 (lay1 (lay1 M.b s.k0 sid 0) s.k1 sid 1) s.k2 sid 2 }
def MM.drop (M : MM) (k : ByteArray) : Int × MM :=
 match M.b k with
 | none => (9, M)
 | some b => match M.s b.sid with
  | none => (0, { M with b := upd M.b k none })
  | some s => (0, { M with b := upd M.b k none, s := upd M.s b.sid (if (s.off b.part).dead then none else some (s.off b.part)) })
def MM.put (M : MM) (r : Rc) : Int × MM := (0, ({ (M.drop r.key).2 with b := upd (M.drop r.key).2.b r.key (some ⟨r.n, 0, 0⟩) }).lay r.sid ⟨1, 0, r.key, noK, noK, r.locs⟩)
def newS (r : Rc) : List Int := if r.kind = 1 ∨ r.kind = 3 ∨ r.kind = 4 ∨ r.kind = 5 then [r.sid] else if r.kind = 6 then r.sids.filter (fun x => decide (x ≠ 0)) else []
def rise (last : Int) : List Int → Option Int
 | [] => some last
 | x :: l => if x ≤ last then none else rise x l
def MM.app (M : MM) (r : Rc) (c : Int × MM) : Int × MM :=
 if okR r = false then (1, M) else
 match rise M.last (newS r) with
 | none => (11, M)
 | some last => (c.1, if c.1 = 0 then { c.2 with last := last } else c.2)
abbrev mhead (bm bs : Nat) (last : Int) (t : Tb) : Array Value := #[.map (some bm), .map (some bs), .int .i64 last, .int .i64 t.hot, .int .i64 t.warm, .int .i64 t.gap, .int .i64 t.add, .int .i64 t.top, .int .i64 t.half]
structure MT (F : Nat → Prop) (w : World) (p bm bs n : Nat) (Q : Int → Value) (M : MM) : Prop where
 hp : w.heap[p]? = some (.cells (mhead bm bs M.last M.t) 58 (0, 0))
 mb : MapS w bm n fun k => (M.b k).map blv
 ms : MapI w bs n fun i => (M.s i).map fun s => stv s (Q i)
 row : ∀ i s, M.s i = some s → ∃ g c, Q i = .slice (some ⟨g, 0, none⟩) s.locs.length c ∧ F g ∧ OwnLo 0 w (Q i) s.locs
 dis : ∀ i j s s', M.s i = some s → M.s j = some s' → i ≠ j → (Q i).ownBlock ≠ (Q j).ownBlock
 fp : F p
 fm : F bm
 fs : F bs
 nb : bm ≠ bs
section
variable {F S : Nat → Prop} {w w' : World} {p bm bs n : Nat} {Q : Int → Value} {M : MM}
theorem MT.lt (h : MT F w p bm bs n Q M) : p < w.heap.size := (Array.getElem?_eq_some_iff.1 h.hp).1
theorem MT.pm (h : MT F w p bm bs n Q M) : p ≠ bm := fun e => by
 have h1 := h.mb.noCell 0
 rw [← e] at h1
 simp [World.cell?, h.hp] at h1
theorem MT.ps (h : MT F w p bm bs n Q M) : p ≠ bs := fun e => by
 have h1 := h.ms.noCell 0
 rw [← e] at h1
 simp [World.cell?, h.hp] at h1
theorem lo_ne_meta : (64 : TypeId) ≠ 58 := by decide
theorem lo_block {v : Value} {ls : List Lo} {g c l : Nat} (h : OwnLo 0 w v ls) (e : v = .slice (some ⟨g, 0, none⟩) l c) : ∃ cur, w.heap[g]? = some (.cells cur 64 (0, 0)) := by
 rcases h.2 with ⟨e1, _⟩ | ⟨g', cap, cur, e1, _, h3, _⟩
 ·rw [e] at e1; cases e1
 ·rw [e] at e1; injection e1 with e1; injection e1 with e1; injection e1 with e1; exact ⟨cur, by rw [e1]; exact h3⟩
theorem MT.rp (h : MT F w p bm bs n Q M) {i : Int} {s : St} (hs : M.s i = some s) : (Q i).ownBlock ≠ some p := by
 obtain ⟨g, c, e, _, ho⟩ := h.row i s hs
 obtain ⟨cur, hc⟩ := lo_block ho e
 rw [e]
 intro e1
 have e1 : g = p := by injection e1
 rw [e1, h.hp] at hc
 injection hc with hc
 injection hc with _ hc
 exact absurd hc.symm lo_ne_meta
theorem MT.rm (h : MT F w p bm bs n Q M) {i : Int} {s : St} (hs : M.s i = some s) : (Q i).ownBlock ≠ some bm ∧ (Q i).ownBlock ≠ some bs := by
 obtain ⟨g, c, e, _, ho⟩ := h.row i s hs
 obtain ⟨cur, hc⟩ := lo_block ho e
 rw [e]
 refine ⟨fun e1 => ?_, fun e1 => ?_⟩
 ·have e1 : g = bm := by injection e1
  obtain ⟨D, ⟨es, clock, hb, _⟩, _⟩ := h.mb
  rw [← e1, hc] at hb
  cases hb
 ·have e1 : g = bs := by injection e1
  obtain ⟨D, ⟨es, clock, hb, _⟩, _⟩ := h.ms
  rw [← e1, hc] at hb
  cases hb
theorem lo_up {v : Value} {ls : List Lo} (h : OwnLo 0 w v ls) (u : Up S w w') (hs : ∀ g, v.ownBlock = some g → ¬ S g) : OwnLo 0 w' v ls := by
 refine ⟨h.1, ?_⟩
 rcases h.2 with hn | ⟨g, cap, cur, h1, h2, h3, h4⟩
 ·exact .inl hn
 ·have hl := (Array.getElem?_eq_some_iff.1 h3).1
  exact .inr ⟨g, cap, cur, h1, h2, (u.block g hl (hs g (by rw [h1]; rfl))).trans h3, h4⟩
theorem MT.up (h : MT F w p bm bs n Q M) (u : Up S w w') (hs : ∀ k, F k → ¬ S k) : MT F w' p bm bs n Q M where
  hp := (u.block p h.lt (hs p h.fp)).trans h.hp
  mb := h.mb.up u (hs bm h.fm)
  ms := h.ms.up u (hs bs h.fs)
  row i s e := by
    obtain ⟨g, c, e1, e2, e3⟩ := h.row i s e
    exact ⟨g, c, e1, e2, lo_up e3 u fun k hk => by rw [e1] at hk; have e4 : g = k := by injection hk
                                                   rw [← e4]; exact hs g e2⟩
  dis := h.dis
  fp := h.fp
  fm := h.fm
  fs := h.fs
  nb := h.nb
theorem MT.nxt (h : MT F w p bm bs n Q M) (u : Up Nul w w') : MT F w' p bm bs n Q M := h.up u fun _ _ => id
theorem MT.wide {G : Nat → Prop} (h : MT F w p bm bs n Q M) (hg : ∀ k, F k → G k) : MT G w p bm bs n Q M :=
 ⟨h.hp, h.mb, h.ms, fun i s e => by obtain ⟨g, c, e1, e2, e3⟩ := h.row i s e; exact ⟨g, c, e1, hg g e2, e3⟩, h.dis, hg _ h.fp, hg _ h.fm, hg _ h.fs, h.nb⟩
theorem MT.mono (h : MT F w p bm bs n Q M) {m : Nat} (hm : n ≤ m) : MT F w p bm bs m Q M := ⟨h.hp, h.mb.mono hm, h.ms.mono hm, h.row, h.dis, h.fp, h.fm, h.fs, h.nb⟩
theorem MT.setB (h : MT F w p bm bs n Q M) {m : Nat} (hm : n ≤ m) {f : ByteArray → Option Bl} (h' : MapS w' bm m fun k => (f k).map blv) (u : Up (fun k => k = bm) w w') : MT F w' p bm bs m Q { M with b := f } where
 hp := (u.block p h.lt h.pm).trans h.hp
 mb := h'
 ms := (h.ms.up u fun e => h.nb e.symm).mono hm
 row i s e := by
  obtain ⟨g, c, e1, e2, e3⟩ := h.row i s e
  exact ⟨g, c, e1, e2, lo_up e3 u fun k hk e4 => (h.rm e).1 (by rw [hk, e4])⟩
 dis := h.dis
 fp := h.fp
 fm := h.fm
 fs := h.fs
 nb := h.nb
theorem MT.setS (h : MT F w p bm bs n Q M) {m : Nat} (hm : n ≤ m) {f : Int → Option St} {Q' : Int → Value} (h' : MapI w' bs m fun i => (f i).map fun s => stv s (Q' i)) (u : Up (fun k => k = bs) w w')
  (hr : ∀ i s, f i = some s → ∃ g c, Q' i = .slice (some ⟨g, 0, none⟩) s.locs.length c ∧ F g ∧ OwnLo 0 w' (Q' i) s.locs) (hd : ∀ i j s s', f i = some s → f j = some s' → i ≠ j → (Q' i).ownBlock ≠ (Q' j).ownBlock) : MT F w' p bm bs m Q' { M with s := f } where
 hp := (u.block p h.lt h.ps).trans h.hp
 mb := (h.mb.up u h.nb).mono hm
 ms := h'
 row := hr
 dis := hd
 fp := h.fp
 fm := h.fm
 fs := h.fs
 nb := h.nb
theorem map_upd {α β γ : Type} [DecidableEq α] (f : α → Option β) (k : α) (v : Option β) (g : β → γ) : (fun x => (upd f k v x).map g) = upd (fun x => (f x).map g) k (v.map g) := by
 funext x
 unfold upd
 split <;> rfl
theorem bind_upd {α β γ : Type} [DecidableEq α] (f : α → Option β) (k : α) (v : Option β) (g : α → β → γ) : (fun x => (upd f k v x).map (g x)) = upd (fun x => (f x).map (g x)) k (v.map (g k)) := by
 funext x
 unfold upd
 split
 ·rename_i e; rw [e]
 ·rfl
theorem MT.putB (h : MT F w p bm bs n Q M) (hn : n < maxLen) {k : ByteArray} (hk : k.size ≤ maxLen) (x : Bl) :
  ∃ w', (Instr.mapUpdate 55 (.map (some bm)) (.string k) (blv x)).run Tryz.prog w = .ok () w' ∧ MT F w' p bm bs (n + 1) Q { M with b := upd M.b k (some x) } ∧ Up (fun k => k = bm) w w' := by
 obtain ⟨w', h1, h2, h3⟩ := h.mb.put (t := 55) (e := 51) Tryz.underlying55 hn hk (blv x)
 exact ⟨w', h1, h.setB (Nat.le_succ n) (by rw [map_upd]; exact h2) h3, h3⟩
theorem MT.delB (h : MT F w p bm bs n Q M) {k : ByteArray} (hk : k.size ≤ maxLen) (ty : TypeId) :
  ∃ w', (Builtin.delete_ #[55, 9] ty #[.map (some bm), .string k]).run Tryz.prog w = .ok (.tuple #[]) w' ∧ MT F w' p bm bs n Q { M with b := upd M.b k none } ∧ Up (fun k => k = bm) w w' := by
 obtain ⟨w', h1, h2, h3⟩ := h.mb.del (t := 55) (e := 51) Tryz.underlying55 hk ty
 exact ⟨w', h1, h.setB (Nat.le_refl n) (by rw [map_upd]; exact h2) h3, h3⟩
theorem wfI {x : Int} (h : 0 ≤ x) (h2 : x ≤ 2147483647) : (Lit.int .i64 x).wf = true := by
 exact WalkArith.wf_i64 (by omega)
theorem MT.putS (h : MT F w p bm bs n Q M) (hn : n < maxLen) {i : Int} (hi : (Lit.int .i64 i).wf = true) (s : St) (v : Value) (hv : ∃ g c, v = .slice (some ⟨g, 0, none⟩) s.locs.length c ∧ F g ∧ OwnLo 0 w v s.locs)
  (hd : ∀ j s', M.s j = some s' → i ≠ j → v.ownBlock ≠ (Q j).ownBlock) :
  ∃ w', (Instr.mapUpdate 56 (.map (some bs)) (.int .i64 i) (stv s v)).run Tryz.prog w = .ok () w' ∧ MT F w' p bm bs (n + 1) (upd Q i v) { M with s := upd M.s i (some s) } ∧ Up (fun k => k = bs) w w' := by
 obtain ⟨w', h1, h2, h3⟩ := h.ms.put (t := 56) (e := 46) Tryz.underlying56 hn hi (stv s v)
 have hbs : v.ownBlock ≠ some bs := by
  obtain ⟨g, c, e, _, ho⟩ := hv
  obtain ⟨cur, hc⟩ := lo_block ho e
  rw [e]
  intro e1
  have e1 : g = bs := by injection e1
  obtain ⟨D, ⟨es, clock, hb, _⟩, _⟩ := h.ms
  rw [← e1, hc] at hb
  cases hb
 refine ⟨w', h1, h.setS (Nat.le_succ n) ?_ h3 ?_ ?_, h3⟩
 ·have e : (fun j => (upd M.s i (some s) j).map fun s => stv s (upd Q i v j)) = upd (fun x => (M.s x).map fun s => stv s (Q x)) i (some (stv s v)) := by
   funext x
   unfold upd
   by_cases hx : x = i
   ·rw [if_pos hx, if_pos hx]; simp [hx]
   ·rw [if_neg hx, if_neg hx]; simp [hx]
  rw [e]
  exact h2
 ·intro j s' hj
  by_cases hx : j = i
  ·subst hx
   rw [upd_same] at hj ⊢
   cases hj
   obtain ⟨g, c, e, e2, e3⟩ := hv
   exact ⟨g, c, e, e2, lo_up e3 h3 fun k hk e4 => hbs (by rw [hk, e4])⟩
  ·rw [upd_ne _ _ hx] at hj ⊢
   obtain ⟨g, c, e1, e2, e3⟩ := h.row j s' hj
   exact ⟨g, c, e1, e2, lo_up e3 h3 fun k hk e4 => (h.rm hj).2 (by rw [hk, e4])⟩
 ·intro j j' s1 s2 h1' h2' hne
  by_cases hx : j = i
  ·subst hx
   have hy : j' ≠ j := fun e => hne e.symm
   rw [upd_ne _ _ hy] at h2' ⊢
   rw [upd_same]
   exact hd j' s2 h2' hne
  ·rw [upd_ne _ _ hx] at h1' ⊢
   by_cases hy : j' = i
   ·subst hy
    rw [upd_same]
    exact fun e => hd j s1 h1' (fun e => hx e.symm) e.symm
   ·rw [upd_ne _ _ hy] at h2' ⊢
    exact h.dis j j' s1 s2 h1' h2' hne
theorem MT.delS (h : MT F w p bm bs n Q M) {i : Int} (hi : (Lit.int .i64 i).wf = true) (ty : TypeId) :
  ∃ w', (Builtin.delete_ #[56, 3] ty #[.map (some bs), .int .i64 i]).run Tryz.prog w = .ok (.tuple #[]) w' ∧ MT F w' p bm bs n Q { M with s := upd M.s i none } ∧ Up (fun k => k = bs) w w' := by
 obtain ⟨w', h1, h2, h3⟩ := h.ms.del (t := 56) (e := 46) Tryz.underlying56 hi ty
 refine ⟨w', h1, h.setS (Nat.le_refl n) ?_ h3 ?_ ?_, h3⟩
 ·rw [bind_upd M.s i none (fun i s => stv s (Q i))]
  exact h2
 ·intro j s hj
  by_cases hx : j = i
  ·subst hx; rw [upd_same] at hj; cases hj
  ·rw [upd_ne _ _ hx] at hj
   obtain ⟨g, c, e1, e2, e3⟩ := h.row j s hj
   exact ⟨g, c, e1, e2, lo_up e3 h3 fun k hk e4 => (h.rm hj).2 (by rw [hk, e4])⟩
 ·intro j j' s1 s2 h1' h2' hne
  refine h.dis j j' s1 s2 ?_ ?_ hne
  ·by_cases hx : j = i
   ·subst hx; rw [upd_same] at h1'; cases h1'
   ·rw [upd_ne _ _ hx] at h1'; exact h1'
  ·by_cases hx : j' = i
   ·subst hx; rw [upd_same] at h2'; cases h2'
   ·rw [upd_ne _ _ hx] at h2'; exact h2'
end
theorem Up.thn {S T : Nat → Prop} {u v w : World} (h : Up S u v) (k : Up T v w) (hT : ∀ j, T j → S j ∨ u.heap.size ≤ j) : Up S u w :=
 ⟨k.os.trans h.os, k.tape.trans h.tape, k.output.trans h.output, Nat.le_trans h.size k.size, fun j hj hs => (k.block j (Nat.lt_of_lt_of_le hj h.size) (fun e => by rcases hT j e with e | e; exact hs e; omega)).trans (h.block j hj hs)⟩
abbrev Fresh (w w' : World) (k : Nat) : Prop := w.heap.size ≤ k ∧ k < w'.heap.size
theorem new_any (w : World) : Calls Tryz.prog 5 #[] w fun e w' => ∃ p bm bs, e = .returned (.pointer (some ⟨p, 0, none⟩)) ∧ MT (Fresh w w') w' p bm bs 0 (fun _ => undef) MM.new ∧ Up Nul w w' := by
 have hmm := @run_makeMap Tryz.prog
 have H : Hid (∀ W, W = ((w.alloc (.map #[] 0)).alloc (.map #[] 0)).alloc (.cells (mhead w.heap.size (w.heap.size + 1) 0 tb0) 58) → MT (Fresh w W) W (w.heap.size + 2) w.heap.size (w.heap.size + 1) 0 (fun _ => undef) MM.new ∧ Up Nul w W) := by
  rintro W rfl
  have u1 : Up Nul (w.alloc (.map #[] 0)) (((w.alloc (.map #[] 0)).alloc (.map #[] 0)).alloc (.cells (mhead w.heap.size (w.heap.size + 1) 0 tb0) 58)) := ((Up.refl _ _).alloc _).alloc _
  have u2 : Up Nul ((w.alloc (.map #[] 0)).alloc (.map #[] 0)) (((w.alloc (.map #[] 0)).alloc (.map #[] 0)).alloc (.cells (mhead w.heap.size (w.heap.size + 1) 0 tb0) 58)) := (Up.refl _ _).alloc _
  have e1 : (w.alloc (.map #[] 0)).heap.size = w.heap.size + 1 := World.size_alloc _ _
  have e2 : ((w.alloc (.map #[] 0)).alloc (.map #[] 0)).heap.size = w.heap.size + 2 := by rw [World.size_alloc, e1]
  have e3 : (((w.alloc (.map #[] 0)).alloc (.map #[] 0)).alloc (.cells (mhead w.heap.size (w.heap.size + 1) 0 tb0) 58)).heap.size = w.heap.size + 3 := by rw [World.size_alloc, e2]
  refine ⟨⟨?_, (MapS.new w).up u1 id, ?_, fun i s e => (by cases e), fun i j s s' e => (by cases e), ⟨by omega, by omega⟩, ⟨by omega, by omega⟩, ⟨by omega, by omega⟩, by omega⟩, (((Up.refl _ _).alloc _).alloc _).alloc _⟩
  ·have := heap_alloc_new ((w.alloc (.map #[] 0)).alloc (.map #[] 0)) (.cells (mhead w.heap.size (w.heap.size + 1) 0 tb0) 58)
   rw [e2] at this
   exact this
  ·have := (MapI.new (w.alloc (.map #[] 0))).up u2 id
   rw [e1] at this
   exact this
 go_enter Tryz.func5, Tryz.ntmps5
 go_wp2
 go_ret
 exact ⟨_, _, _, rfl, H.out _ rfl⟩
section
variable {F : Nat → Prop} {w : World} {p bm bs n : Nat} {Q : Int → Value} {M : MM}
theorem MT.cells (h : MT F w p bm bs n Q M) : w.cell? ⟨p, 0, none⟩ = some (.map (some bm)) ∧ w.cell? ⟨p, 1, none⟩ = some (.map (some bs)) ∧ w.cell? ⟨p, 2, none⟩ = some (.int .i64 M.last) := by
 simp [World.cell?, h.hp]
theorem next_any (h : MT F w p bm bs n Q M) (hl : M.last ≤ 2147483647 ∧ 0 ≤ M.last) : Calls Tryz.prog 17 #[.pointer (some ⟨p, 0, none⟩)] w fun e w' => e = .returned (.int .i64 (M.last + 1)) ∧ w' = w := by
 obtain ⟨c0, c1, c2⟩ := h.cells
 clear h
 generalize M.last = l at c2 hl ⊢
 have hw : IntKind.i64.wrap (l + 1) = l + 1 := IntWalk.i64_in _ (by omega)
 have hw2 : wrap64 (l + 1) = l + 1 := by rw [← IntWalk.i64_left]; exact hw
 clear hl
 go_enter Tryz.func17, Tryz.ntmps17
 go_wp2
 go_ret
 exact ⟨rfl, rfl⟩
end
theorem zero_bl (w : World) : (zeroValue 51).run Tryz.prog w = .ok (.agg #[.int .i64 0, .int .i64 0, .int .i64 0]) w := by kernel_rfl
theorem info_bl : (Tryz.prog.info? 51).map (·.size) = some 3 := by kernel_rfl
section
variable {F : Nat → Prop} {w : World} {p bm bs n : Nat} {Q : Int → Value} {M : MM}
theorem blob_any (h : MT F w p bm bs n Q M) (k : ByteArray) (hk : k.size ≤ maxLen) :
  Calls Tryz.prog 18 #[.pointer (some ⟨p, 0, none⟩), .string k] w fun e w' => e = .returned (.tuple #[blv ((M.b k).getD ⟨0, 0, 0⟩), .bool (M.b k).isSome]) ∧ Up Nul w w' := by
 have u0 : Up Nul w (w.alloc (.cells #[.int .i64 0, .int .i64 0, .int .i64 0] 51)) := (Up.refl Nul w).alloc _
 have h0 := h.nxt u0
 obtain ⟨c0, c1, c2⟩ := h0.cells
 have hl := h0.mb.look2 Tryz.underlying55 (zero_bl _) hk
 have HU := hid u0
 obtain ⟨o, O⟩ : ∃ o, Hid (M.b k = o) := ⟨_, rfl⟩
 have e1 : (o.map blv).getD (.agg #[.int .i64 0, .int .i64 0, .int .i64 0]) = .agg #[.int .i64 (o.getD ⟨0, 0, 0⟩).n, .int .i64 (o.getD ⟨0, 0, 0⟩).sid, .int .i64 (o.getD ⟨0, 0, 0⟩).part] := by cases o <;> rfl
 have e2 : (o.map blv).isSome = o.isSome := by cases o <;> rfl
 rw [O.out, e1, e2] at hl
 rw [O.out]
 clear e1 e2
 show Calls Tryz.prog 18 #[.pointer (some ⟨p, 0, none⟩), .string k] w fun e w' => e = .returned (.tuple #[.agg #[.int .i64 (o.getD ⟨0, 0, 0⟩).n, .int .i64 (o.getD ⟨0, 0, 0⟩).sid, .int .i64 (o.getD ⟨0, 0, 0⟩).part], .bool o.isSome]) ∧ Up Nul w w'
 generalize (o.getD ⟨0, 0, 0⟩).n = x0 at hl ⊢
 generalize (o.getD ⟨0, 0, 0⟩).sid = x1 at hl ⊢
 generalize (o.getD ⟨0, 0, 0⟩).part = x2 at hl ⊢
 generalize o.isSome = ok at hl ⊢
 have hlt := h.lt
 clear O h h0 hk u0
 go_enter Tryz.func18, Tryz.ntmps18
 go_wp2_with fail
 have hb : ((w.alloc (.cells #[.int .i64 x0, .int .i64 x1, .int .i64 x2] 51)).alloc (.cells #[.int .i64 x0, .int .i64 x1, .int .i64 x2] 51)).heap[w.heap.size]? = some (.cells #[.int .i64 x0, .int .i64 x1, .int .i64 x2] 51 (0, 0)) :=
  (((Up.refl Nul _).alloc _).block w.heap.size (by rw [World.size_alloc]; omega) id).trans (heap_alloc_new w _)
 have hld := run_loadVar_row (P := Tryz.prog) _ _ _ 51 _ _ _ hb Tryz.underlying51 rfl info_bl
 refine bodyPost_ret (v := .tuple #[.agg #[.int .i64 x0, .int .i64 x1, .int .i64 x2], .bool ok]) (by rw [results_cell_tmp rfl]; simp [asAddr, hld, Result.andThen]) rfl ?_
 exact ⟨rfl, ((Up.refl _ _).alloc _).alloc _⟩
end
theorem str_none (a : ByteArray) : (a.toList == (noK).toList) = decide (a = noK) := by
 rw [Bool.eq_iff_iff]
 simp only [beq_iff_eq, decide_eq_true_eq, ByteArray.toList_eq]
 constructor
 ·intro h; exact ByteArray.ext (Array.toList_inj.1 h)
 ·intro h; rw [h]
theorem str_some {a : ByteArray} (h : ¬ a = noK) : ¬ a.toList = [] := fun e => h (ByteArray.ext (Array.toList_inj.1 (by rw [← ByteArray.toList_eq]; exact e)))
theorem eqi (d : Nat) (a b c : ByteArray) (w : World) : (Op.equalIn (d + 1 + 1) 44 (.agg #[.string a, .string b, .string c]) (.agg #[.string ⟨#[]⟩, .string ⟨#[]⟩, .string ⟨#[]⟩])).run Tryz.prog w = .ok (decide (a = noK ∧ b = noK ∧ c = noK)) w := by
 obtain ⟨i, hi⟩ : ∃ i, Tryz.prog.info? 9 = some i := by
  have h : (Tryz.prog.info? 9).isSome = true := by kernel_rfl
  exact Option.isSome_iff_exists.1 h
 have hc : Tryz.prog.cellsOf 9 = 1 := by kernel_rfl
 rw [run_equalIn_array w (d + 1) _ _ Tryz.underlying44 hi, hc]
 have p0 : ∀ x y z : ByteArray, (part 9 #[.string x, .string y, .string z] 0).run Tryz.prog w = .ok (.string x) w := fun _ _ _ => by kernel_rfl
 have p1 : ∀ x y z : ByteArray, (part 9 #[.string x, .string y, .string z] 1).run Tryz.prog w = .ok (.string y) w := fun _ _ _ => by kernel_rfl
 have p2 : ∀ x y z : ByteArray, (part 9 #[.string x, .string y, .string z] 2).run Tryz.prog w = .ok (.string z) w := fun _ _ _ => by kernel_rfl
 have hs : ∀ x y : ByteArray, (Op.equalIn (d + 1) 9 (.string x) (.string y)).run Tryz.prog w = .ok (x.toList == y.toList) w := fun x y => run_equalIn_string w d _ x y Tryz.underlying9
 have hr : List.range 3 = [0, 1, 2] := rfl
 rw [hr]
 simp only [Op.eqItems, Sem.run_bind, Nat.reduceMul, p0, hs, Result.andThen_ok, str_none]
 by_cases ha : a = noK
 ·by_cases hb : b = noK
  ·by_cases hc : c = noK
   ·simp [ha, hb, hc, p1, p2, hs]
   ·have := str_some hc
    simp [ha, hb, hc, p1, p2, hs, this]
  ·have := str_some hb
   simp [ha, hb, p1, hs, this]
 ·simp [ha]
theorem eq3 (a b c : ByteArray) (w : World) : (binOp .eql 44 (.agg #[.string a, .string b, .string c]) (.agg #[.string ⟨#[]⟩, .string ⟨#[]⟩, .string ⟨#[]⟩])).run Tryz.prog w = .ok (.bool (decide (a = noK ∧ b = noK ∧ c = noK))) w := by
 have h := eqi 9998 a b c w
 go_simp
theorem zero_st (w : World) : (zeroValue 46).run Tryz.prog w = .ok (.agg #[.int .i64 0, .int .i64 0, .string ⟨#[]⟩, .string ⟨#[]⟩, .string ⟨#[]⟩, .slice none 0 0]) w := by kernel_rfl
abbrev st0 : Obj := .cells #[.int .i64 0, .int .i64 0, .string ⟨#[]⟩, .string ⟨#[]⟩, .string ⟨#[]⟩, .slice none 0 0] 46
theorem upd_upd {α β : Type} [DecidableEq α] (f : α → β) (k : α) (v v' : β) : upd (upd f k v) k v' = upd f k v' := by
 funext x
 unfold upd
 split <;> rfl
abbrev Two (bm bs : Nat) (k : Nat) : Prop := k = bm ∨ k = bs
section
variable {F : Nat → Prop} {w : World} {p bm bs n : Nat} {Q : Int → Value} {M : MM}
theorem drop_none (h : MT F w p bm bs n Q M) (k : ByteArray) (hk : k.size ≤ maxLen) (hb : M.b k = none) :
  Calls Tryz.prog 66 #[.pointer (some ⟨p, 0, none⟩), .string k] w fun e w' => e = .returned (.int .i64 9) ∧ Up Nul w w' := by
 obtain ⟨c0, c1, c2⟩ := h.cells
 have hl := h.mb.look2 Tryz.underlying55 (zero_bl _) hk
 rw [hb] at hl
 simp only [Option.map_none, Option.getD_none, Option.isSome_none] at hl
 have HU : Hid (∀ o, Up Nul w (w.alloc o)) := fun o => (Up.refl _ _).alloc o
 clear h hk hb
 go_enter Tryz.func66, Tryz.ntmps66
 go_wp2_with fail
 go_ret
 exact ⟨rfl, HU.out _⟩
set_option maxRecDepth 10000 in
set_option maxHeartbeats 4000000 in
theorem drop_some (h : MT F w p bm bs n Q M) (hFw : ∀ k, F k → k < w.heap.size) (k : ByteArray) (hk : k.size ≤ maxLen) (xn xi xp : Int) (hb : M.b k = some ⟨xn, xi, xp⟩) (s : St) (hs : M.s xi = some s) (hx : (Lit.int .i64 xi).wf = true) (hp : xp = 0 ∨ xp = 1 ∨ xp = 2) (hn : n < maxLen) :
    Calls Tryz.prog 66 #[.pointer (some ⟨p, 0, none⟩), .string k] w fun e w' => e = .returned (.int .i64 0) ∧
      (∃ Q', MT F w' p bm bs (n + 1) Q' { M with b := upd M.b k none, s := upd M.s xi (if (s.off xp).dead then none else some (s.off xp)) }) ∧ Up (Two bm bs) w w' := by
  obtain ⟨c0, c1, c2⟩ := h.cells
  have hl := h.mb.look2 Tryz.underlying55 (zero_bl _) hk
  rw [hb] at hl
  simp only [Option.map_some, Option.getD_some, Option.isSome_some, blv] at hl
  have u1 : Up Nul w (w.alloc (.cells #[.int .i64 xn, .int .i64 xi, .int .i64 xp] 51)) := (Up.refl _ _).alloc _
  have h1 := h.nxt u1
  have b1 := heap_alloc_new w (.cells #[.int .i64 xn, .int .i64 xi, .int .i64 xp] 51)
  obtain ⟨w2, hdel, h2, u2⟩ := h1.delB hk 0
  have hlt := h.lt
  have hbm : w.heap.size ≠ bm := by have := h.mb.lt; omega
  have b2 := (u2.block w.heap.size (by rw [World.size_alloc]; omega) hbm).trans b1
  obtain ⟨d0, d1, d2⟩ := h2.cells
  have x1 : w2.cell? ⟨w.heap.size, 1, none⟩ = some (.int .i64 xi) := by simp [World.cell?, b2]
  have x2 : w2.cell? ⟨w.heap.size, 2, none⟩ = some (.int .i64 xp) := by simp [World.cell?, b2]
  have c1' := (h1.cells).1
  have hl2 : ∀ W, MT F W p bm bs n Q { M with b := upd M.b k none } → (Instr.lookup 56 (.map (some bs)) (.int .i64 xi) false).run Tryz.prog W.drew = .ok (stv s (Q xi)) W.drew := fun W h2 => by
    have := (MapI.drew h2.ms).look1 Tryz.underlying56 (zero_st _) hx
    rw [hs] at this
    exact this
  obtain ⟨g, c, hq, hF, ho⟩ := h2.row xi s hs
  rw [hq] at hl2
  have u3 : Up Nul w2 (w2.alloc (.cells #[.int .i64 0, .int .i64 0, .string ⟨#[]⟩, .string ⟨#[]⟩, .string ⟨#[]⟩, .slice none 0 0] 46)) := (Up.refl _ _).alloc _
  have hl3 := hl2 _ (h2.nxt u3)
  have hl4 := hl2 _ h2
  clear hl2
  obtain ⟨e0, e1, e2⟩ := (h2.nxt u3).cells
  have hsz : w.heap.size < w2.heap.size := Nat.lt_of_lt_of_le (by rw [World.size_alloc]; omega) u2.size
  have y1 := (u3.cell (p := ⟨w.heap.size, 1, none⟩) hsz id).trans x1
  have y2 := (u3.cell (p := ⟨w.heap.size, 2, none⟩) hsz id).trans x2
  have HH := hid h2
  have HU := hid (u1.nul.trans u2 : Up (fun k => k = bm) w w2)
  clear h h1 h2 u1 u2 u3 b1 hk hb
  have HSS := hid hs
  have HXX := hid hx
  have HNN := hid hn
  have HQQ := hid hq
  clear hs hx hn hq
  obtain ⟨L, LL⟩ : ∃ L, Hid (s.locs.length = L) := ⟨_, rfl⟩
  rw [LL.out] at hl4 hl3
  rcases hp with rfl | rfl | rfl
  all_goals generalize hR : ({ M with b := upd M.b k none, s := upd M.s xi (if (s.off _).dead then none else some (s.off _)) } : MM) = R
  all_goals have HR := hid hR
  all_goals clear hR
  all_goals
    go_enter Tryz.func66, Tryz.ntmps66
    go_wp2_with (first | (at_delete; refine wpList_del_eqv rfl _ _ _ _ rfl _ _ rfl rfl hdel ?_))
    go_region
    all_goals
      have u4 : Up Nul w2 (w2.alloc (.cells #[.int .i64 s.kind, .int .i64 s.colour, .string s.k0, .string s.k1, .string s.k2, .slice (some ⟨g, 0, none⟩) L c] 46)).drew := ((Up.refl _ _).alloc _).drew
      have b4 : (w2.alloc (.cells #[.int .i64 s.kind, .int .i64 s.colour, .string s.k0, .string s.k1, .string s.k2, .slice (some ⟨g, 0, none⟩) L c] 46)).drew.heap[w2.heap.size]? = some (.cells #[.int .i64 s.kind, .int .i64 s.colour, .string s.k0, .string s.k1, .string s.k2, .slice (some ⟨g, 0, none⟩) L c] 46 (0, 0)) := heap_alloc_new w2 _
      have z4 : (w2.alloc (.cells #[.int .i64 s.kind, .int .i64 s.colour, .string s.k0, .string s.k1, .string s.k2, .slice (some ⟨g, 0, none⟩) L c] 46)).drew.heap.size = w2.heap.size + 1 := World.size_alloc _ _
      generalize (w2.alloc (.cells #[.int .i64 s.kind, .int .i64 s.colour, .string s.k0, .string s.k1, .string s.k2, .slice (some ⟨g, 0, none⟩) L c] 46)).drew = w4 at u4 b4 z4 ⊢
      have b5 := (u4.block w.heap.size hsz id).trans b2
      have HH4 := hid (HH.out.nxt u4)
      obtain ⟨f0, f1, f2⟩ := HH4.out.cells
      have v1 := (u4.cell (p := ⟨w.heap.size, 1, none⟩) hsz id).trans x1
      have v2 := (u4.cell (p := ⟨w.heap.size, 2, none⟩) hsz id).trans x2
      generalize w2.heap.size = ps at b4 z4 hsz ⊢
      have g0 : w4.cell? ⟨ps, 0, none⟩ = some (.int .i64 s.kind) := by simp [World.cell?, b4]
      have g1 : w4.cell? ⟨ps, 1, none⟩ = some (.int .i64 s.colour) := by simp [World.cell?, b4]
      have g2 : w4.cell? ⟨ps, 2, none⟩ = some (.string s.k0) := by simp [World.cell?, b4]
      have g3 : w4.cell? ⟨ps, 3, none⟩ = some (.string s.k1) := by simp [World.cell?, b4]
      have g4 : w4.cell? ⟨ps, 4, none⟩ = some (.string s.k2) := by simp [World.cell?, b4]
      have g5 : w4.cell? ⟨ps, 5, none⟩ = some (.slice (some ⟨g, 0, none⟩) L c) := by simp [World.cell?, b4]
      have q2 : w4.frozen? ⟨ps, 2, none⟩ = false := by simp [World.frozen?, b4]
      have q3 : w4.frozen? ⟨ps, 3, none⟩ = false := by simp [World.frozen?, b4]
      have q4 : w4.frozen? ⟨ps, 4, none⟩ = false := by simp [World.frozen?, b4]
      have hpp : w.heap.size ≠ ps := by omega
      have hpp2 : ps ≠ w.heap.size := by omega
      have hpq : p ≠ ps := by omega
      have hpq2 : ps ≠ p := by omega
      have HU4 := hid u4
      clear u4 e0 e1 e2 d0 d1 d2 y1 y2 x1 x2 hl4 hl3
      go_wp2
      first
      | (obtain ⟨w5, hw5⟩ : ∃ W, W = w4.setCell ⟨ps, 2, none⟩ (.string ⟨#[]⟩) := ⟨_, rfl⟩
         have u5 : Up (One ps) w4 w5 := by rw [hw5]; exact (Up.refl (One ps) w4).put rfl _ _
         have b6 : w5.heap[ps]? = some (.cells #[.int .i64 (s.off 0).kind, .int .i64 (s.off 0).colour, .string (s.off 0).k0, .string (s.off 0).k1, .string (s.off 0).k2, .slice (some ⟨g, 0, none⟩) L c] 46 (0, 0)) := by rw [hw5]; exact heap_set_same b4 _ _
         rw [← hw5]
         obtain ⟨sq, hsq⟩ : ∃ x, s.off 0 = x := ⟨_, rfl⟩
         rw [hsq] at b6)
      | (obtain ⟨w5, hw5⟩ : ∃ W, W = w4.setCell ⟨ps, 3, none⟩ (.string ⟨#[]⟩) := ⟨_, rfl⟩
         have u5 : Up (One ps) w4 w5 := by rw [hw5]; exact (Up.refl (One ps) w4).put rfl _ _
         have b6 : w5.heap[ps]? = some (.cells #[.int .i64 (s.off 1).kind, .int .i64 (s.off 1).colour, .string (s.off 1).k0, .string (s.off 1).k1, .string (s.off 1).k2, .slice (some ⟨g, 0, none⟩) L c] 46 (0, 0)) := by rw [hw5]; exact heap_set_same b4 _ _
         rw [← hw5]
         obtain ⟨sq, hsq⟩ : ∃ x, s.off 1 = x := ⟨_, rfl⟩
         rw [hsq] at b6)
      | (obtain ⟨w5, hw5⟩ : ∃ W, W = w4.setCell ⟨ps, 4, none⟩ (.string ⟨#[]⟩) := ⟨_, rfl⟩
         have u5 : Up (One ps) w4 w5 := by rw [hw5]; exact (Up.refl (One ps) w4).put rfl _ _
         have b6 : w5.heap[ps]? = some (.cells #[.int .i64 (s.off 2).kind, .int .i64 (s.off 2).colour, .string (s.off 2).k0, .string (s.off 2).k1, .string (s.off 2).k2, .slice (some ⟨g, 0, none⟩) L c] 46 (0, 0)) := by rw [hw5]; exact heap_set_same b4 _ _
         rw [← hw5]
         obtain ⟨sq, hsq⟩ : ∃ x, s.off 2 = x := ⟨_, rfl⟩
         rw [hsq] at b6)
      have HSQ := hid hsq
      have v1' := (u5.cell (p := ⟨w.heap.size, 1, none⟩) (by have := lt_of_cell v1; exact this) hpp).trans v1
      have f1' := (u5.cell (p := ⟨p, 1, none⟩) (by have := lt_of_cell f1; exact this) hpq).trans f1
      have HU5 := hid u5
      have HH5 : Hid (MT F w5.drew p bm bs n Q { M with b := upd M.b k none }) := (HH4.out.up u5 (fun j hj e => by have e : j = ps := e; have := hFw j hj; omega)).nxt (Up.refl _ _).drew
      have hloc : sq.locs = s.locs := by rw [← hsq]; rfl
      obtain ⟨w6, hput, h6, u6⟩ := HH5.out.putS HNN.out HXX.out sq (.slice (some ⟨g, 0, none⟩) L c) (by
        obtain ⟨g1, c1, e1, e2, e3⟩ := HH5.out.row xi s HSS.out
        refine ⟨g, c, by rw [hloc, LL.out], hF, ?_⟩
        rw [HQQ.out, LL.out] at e3
        rw [hloc]
        exact e3) (fun j s' hj hne => by
        have := HH5.out.dis xi j s s' HSS.out hj hne
        rw [HQQ.out] at this
        exact this)
      have HB6 := hid b6
      have g0' : w5.cell? ⟨ps, 0, none⟩ = some (.int .i64 sq.kind) := by simp [World.cell?, b6]
      have g1' : w5.cell? ⟨ps, 1, none⟩ = some (.int .i64 sq.colour) := by simp [World.cell?, b6]
      have g2' : w5.cell? ⟨ps, 2, none⟩ = some (.string sq.k0) := by simp [World.cell?, b6]
      have g3' : w5.cell? ⟨ps, 3, none⟩ = some (.string sq.k1) := by simp [World.cell?, b6]
      have g4' : w5.cell? ⟨ps, 4, none⟩ = some (.string sq.k2) := by simp [World.cell?, b6]
      have g5' : w5.cell? ⟨ps, 5, none⟩ = some (.slice (some ⟨g, 0, none⟩) L c) := by simp [World.cell?, b6]
      clear hsq hw5 u5 b6 v1 f0 f1 f2 g0 g1 g2 g3 g4 g5 q2 q3 q4 v2 b5 b4 z4
      have HH6 := hid h6
      have HU6 := hid u6
      clear h6 u6 hloc
      have HPUT := hid hput
      clear hput
      go_still_tail 7, (by kernel_rfl)
      change wpList _ _ _ _ _ w5.drew
      refine wpList_put_eqv rfl _ _ _ _ rfl _ _ _ rfl rfl rfl HPUT.out ?_
      have f1'' := HH6.out.cells.2.1
      have v1'' := (HU6.out.cell (p := ⟨w.heap.size, 1, none⟩) (by have := lt_of_cell v1'; exact this) (fun e => by have e : w.heap.size = bs := e; have := hFw _ HH6.out.fs; omega)).trans v1'
      have b7 := (HU6.out.block ps (by have := lt_of_cell g0'; exact this) (fun e => by have e : ps = bs := e; have := hFw _ HH6.out.fs; omega)).trans HB6.out
      have k2 : w6.cell? ⟨ps, 2, none⟩ = some (.string sq.k0) := by simp [World.cell?, b7]
      have k3 : w6.cell? ⟨ps, 3, none⟩ = some (.string sq.k1) := by simp [World.cell?, b7]
      have k4 : w6.cell? ⟨ps, 4, none⟩ = some (.string sq.k2) := by simp [World.cell?, b7]
      have heq : ∀ W : World, (binOp .eql 44 (.agg #[.string sq.k0, .string sq.k1, .string sq.k2]) (.agg #[.string ⟨#[]⟩, .string ⟨#[]⟩, .string ⟨#[]⟩])).run Tryz.prog W = .ok (.bool sq.dead) W := fun W => eq3 _ _ _ W
      clear g0' g1' g2' g3' g4' g5' f1' v1' b7
      obtain ⟨w7, hdelS, h7, u7⟩ := (HH6.out.nxt (Up.refl _ _).drew).delS HXX.out 0
      have HH7 := hid h7
      have HU7 := hid u7
      have HDS := hid hdelS
      clear h7 u7 hdelS
      have HUA : Hid (Up (Two bm bs) w w6) := (((HU.out.mono (fun _ _ e => .inl e)).thn HU4.out (fun _ e => e.elim)).thn HU5.out (fun j e => .inr (by have e : j = ps := e; omega))).thn (((Up.refl (fun k => k = bs) w5).drew).trans HU6.out) (fun j e => .inl (.inr e))
      cases hdd : sq.dead with
      | true =>
        have HDD := hid hdd
        rw [hdd] at heq
        clear hdd
        go_wp2
        go_still_tail 6, (by kernel_rfl)
        change wpList _ _ _ _ _ w6.drew
        refine wpList_del_eqv rfl _ _ _ _ rfl _ _ rfl rfl HDS.out ?_
        go_wp2
        go_ret
        rw [← HR.out]
        refine ⟨rfl, ⟨upd Q xi (.slice (some ⟨g, 0, none⟩) L c), ?_⟩, HUA.out.thn (Up.trans (Up.drew (Up.refl (fun k => k = bs) w6)) HU7.out) (fun j e => .inl (.inr e))⟩
        have e7 := HH7.out
        rw [upd_upd] at e7
        rw [HSQ.out, HDD.out]
        exact e7
      | false =>
        have HDD := hid hdd
        rw [hdd] at heq
        clear hdd
        go_wp2
        go_ret
        rw [← HR.out]
        refine ⟨rfl, ⟨upd Q xi (.slice (some ⟨g, 0, none⟩) L c), ?_⟩, HUA.out⟩
        have e6 := HH6.out
        rw [HSQ.out, HDD.out]
        exact e6
end
def St.key (s : St) : Nat → ByteArray
 | 0 => s.k0
 | 1 => s.k1
 | _ => s.k2
def layT (b : ByteArray → Option Bl) (s : St) (sid : Int) : Nat → ByteArray → Option Bl
 | 0 => b
 | t + 1 => lay1 (layT b s sid t) (s.key t) sid (t : Nat)
theorem layT_three (M : MM) (s : St) (sid : Int) : layT M.b s sid 3 = (M.lay sid s).b := rfl
section
variable {F : Nat → Prop} {w : World} {p bm bs n : Nat} {Q : Int → Value} {M : MM}
set_option maxRecDepth 10000 in
set_option maxHeartbeats 4000000 in
theorem lay_any (h : MT F w p bm bs n Q M) (hFw : ∀ k, F k → k < w.heap.size) (sid : Int) (hx : (Lit.int .i64 sid).wf = true) (s : St) (g c : Nat) (hg : F g) (ho : OwnLo 0 w (.slice (some ⟨g, 0, none⟩) s.locs.length c) s.locs)
  (hd : ∀ j s', M.s j = some s' → sid ≠ j → (Value.slice (some ⟨g, 0, none⟩) s.locs.length c).ownBlock ≠ (Q j).ownBlock) (hk : ∀ t, (s.key t).size ≤ maxLen) (hn : n + 4 ≤ maxLen) :
  Calls Tryz.prog 87 #[.pointer (some ⟨p, 0, none⟩), .int .i64 sid, stv s (.slice (some ⟨g, 0, none⟩) s.locs.length c)] w fun e w' => e = .returned (.tuple #[]) ∧
   (∃ Q', MT F w' p bm bs (n + 4) Q' (M.lay sid s)) ∧ Up (Two bm bs) w w' := by
 obtain ⟨w1, hw1⟩ : ∃ W, W = w.alloc (.cells #[.int .i64 s.kind, .int .i64 s.colour, .string s.k0, .string s.k1, .string s.k2, .slice (some ⟨g, 0, none⟩) s.locs.length c] 46) := ⟨_, rfl⟩
 have u1 : Up Nul w w1 := by rw [hw1]; exact (Up.refl _ _).alloc _
 have b1 : w1.heap[w.heap.size]? = some (.cells #[.int .i64 s.kind, .int .i64 s.colour, .string s.k0, .string s.k1, .string s.k2, .slice (some ⟨g, 0, none⟩) s.locs.length c] 46 (0, 0)) := by rw [hw1]; exact heap_alloc_new _ _
 have h1 := h.nxt u1
 obtain ⟨w2, hput, h2, u2⟩ := (h1.nxt (Up.refl _ _).drew).putS (by omega) hx s (.slice (some ⟨g, 0, none⟩) s.locs.length c) ⟨g, c, rfl, hg, lo_up (ho.up u1 (fun _ _ _ => id)) ((Up.refl Nul w1).drew) (fun _ _ => id)⟩ hd
 have b2 := (u2.block w.heap.size (by have := (Array.getElem?_eq_some_iff.1 b1).1; exact this) (fun e => by have := hFw _ h.fs; omega)).trans b1
 obtain ⟨c0, c1, _⟩ := h1.cells
 have g0 : w1.cell? ⟨w.heap.size, 0, none⟩ = some (.int .i64 s.kind) := by simp [World.cell?, b1]
 have g1 : w1.cell? ⟨w.heap.size, 1, none⟩ = some (.int .i64 s.colour) := by simp [World.cell?, b1]
 have g2 : w1.cell? ⟨w.heap.size, 2, none⟩ = some (.string s.k0) := by simp [World.cell?, b1]
 have g3 : w1.cell? ⟨w.heap.size, 3, none⟩ = some (.string s.k1) := by simp [World.cell?, b1]
 have g4 : w1.cell? ⟨w.heap.size, 4, none⟩ = some (.string s.k2) := by simp [World.cell?, b1]
 have g5 : w1.cell? ⟨w.heap.size, 5, none⟩ = some (.slice (some ⟨g, 0, none⟩) s.locs.length c) := by simp [World.cell?, b1]
 have k2 : w2.cell? ⟨w.heap.size, 2, none⟩ = some (.string s.k0) := by simp [World.cell?, b2]
 have k3 : w2.cell? ⟨w.heap.size, 3, none⟩ = some (.string s.k1) := by simp [World.cell?, b2]
 have k4 : w2.cell? ⟨w.heap.size, 4, none⟩ = some (.string s.k2) := by simp [World.cell?, b2]
 have HH := hid h2
 have HU : Hid (Up (Two bm bs) w w2) := (u1.nul.thn (Up.trans (Up.drew (Up.refl (fun k => k = bs) w1)) u2) (fun j e => .inl (.inr e)))
 have HK := hid hk
 have HN := hid hn
 have HP := hid hput
 have HPM : Hid (∀ W x, Up (Two bm bs) w W → W.heap.size = x → F p ∧ p < x ∧ w.heap.size ≤ x) := fun W x u e => ⟨h.fp, by have := h.lt; have := u.size; omega, by have := u.size; omega⟩
 obtain ⟨R, HR⟩ : ∃ R, Hid (M.lay sid s = R) := ⟨_, rfl⟩
 rw [HR.out]
 obtain ⟨L, LL⟩ : ∃ L, Hid (s.locs.length = L) := ⟨_, rfl⟩
 rw [LL.out] at hw1 g5 HP HH ⊢
 clear h h1 h2 u1 u2 b1 b2 ho hd hk hn hx hput
 go_enter Tryz.func87, Tryz.ntmps87
 go_wp2
 rw [← hw1]
 clear hw1
 generalize w.heap.size = pz at g0 g1 g2 g3 g4 g5 k2 k3 k4 HPM ⊢
 go_still_tail 6, (by kernel_rfl)
 change wpList _ _ _ _ _ w1.drew
 refine wpList_put_eqv rfl _ _ _ _ rfl _ _ _ rfl rfl rfl HP.out ?_
 clear c0 c1 g0 g1 g2 g3 g4 g5
 go_wp2
 go_loopw [18] (fun i wr => ∃ t : Nat, t ≤ 3 ∧ i = .int .i64 (t : Nat) ∧ MT F wr p bm bs (n + 1 + t) (upd Q sid (.slice (some ⟨g, 0, none⟩) L c)) { M with s := upd M.s sid (some s), b := layT M.b s sid t } ∧ Up (Two bm bs) w wr) (fun i _ => 3 - (intOf i).toNat)
 case atStart => exact ⟨0, by omega, rfl, HH.out, HU.out⟩
 case round =>
  obtain ⟨t, ht, rfl, hm, hu⟩ := hrel
  by_cases hlt : t < 3
  ·obtain rfl | rfl | rfl : t = 0 ∨ t = 1 ∨ t = 2 := by omega
   ·obtain ⟨c0, c1, c2⟩ := hm.cells
    have hix : (Instr.index 44 (.agg #[.string s.k0, .string s.k1, .string s.k2]) (.int .i64 0)).run Tryz.prog wr = .ok (.string s.k0) wr := by kernel_rfl
    have HT : Hid (layT M.b s sid 1 = lay1 (layT M.b s sid 0) s.k0 sid (0 : Nat)) := rfl
    have hlk := hm.mb.look2 Tryz.underlying55 (zero_bl _) (show s.k0.size ≤ maxLen from HK.out 0)
    have HM := hid hm
    have HUU := hid hu
    cases hb : layT M.b s sid 0 s.k0 with
    | none =>
     dsimp only at hlk
     rw [hb] at hlk
     simp only [Option.map_none, Option.getD_none, Option.isSome_none] at hlk
     have HB := hid hb
     clear hb hm hu
     go_wp2_with fail
     go_roundw
     case rel => exact ⟨1, by omega, by go_num, by
      have e : layT M.b s sid 1 = layT M.b s sid 0 := by rw [HT.out]; unfold lay1; rw [HB.out]
      rw [e]
      exact (HM.out.nxt ((Up.refl _ _).alloc _)).mono (by omega), HUU.out.trans ((Up.refl _ _).alloc _)⟩
     case measure => simp [intOf]
    | some x =>
     obtain ⟨xn, xi, xp⟩ := x
     dsimp only at hlk
     rw [hb] at hlk
     simp only [Option.map_some, Option.getD_some, Option.isSome_some, blv] at hlk
     have HB := hid hb
     clear hb hm hu
     go_wp2_with fail
     obtain ⟨w3, hw3⟩ : ∃ W, W = wr.alloc (.cells #[.int .i64 xn, .int .i64 xi, .int .i64 xp] 51) := ⟨_, rfl⟩
     have u3 : Up Nul wr w3 := by rw [hw3]; exact (Up.refl _ _).alloc _
     have b3 : w3.heap[wr.heap.size]? = some (.cells #[.int .i64 xn, .int .i64 xi, .int .i64 xp] 51 (0, 0)) := by rw [hw3]; exact heap_alloc_new _ _
     rw [← hw3]
     clear hw3
     have h3 := HM.out.nxt u3
     obtain ⟨w4, hput, h4, u4⟩ := (h3.nxt (Up.refl _ _).drew).putB (by have := HN.out; omega) (show s.k0.size ≤ maxLen from HK.out 0) ⟨xn, sid, (0 : Nat)⟩
     obtain ⟨d0, d1, d2⟩ := h3.cells
     have x0 : w3.cell? ⟨wr.heap.size, 0, none⟩ = some (.int .i64 xn) := by simp [World.cell?, b3]
     have HPUT := hid hput
     have H4 := hid h4
     have HU4 : Hid (Up (Two bm bs) wr w4) := u3.nul.thn (Up.trans (Up.drew (Up.refl (fun k => k = bm) w3)) u4) (fun j e => .inl (.inl e))
     clear h3 h4 u3 u4 b3 hput c0 c1 c2 d1 d2 hlk
     go_still_tail 10, (by kernel_rfl)
     change wpList _ _ _ _ _ w3.drew
     refine wpList_put_eqv rfl _ _ _ _ rfl _ _ _ rfl rfl rfl HPUT.out ?_
     go_wp2
     go_roundw
     case rel => exact ⟨1, by omega, by go_num, by
      have e : layT M.b s sid 1 = upd (layT M.b s sid 0) s.k0 (some ⟨xn, sid, (0 : Nat)⟩) := by rw [HT.out]; unfold lay1; rw [HB.out]
      rw [e]
      exact H4.out.mono (by omega), HUU.out.trans HU4.out⟩
     case measure => simp [intOf]
   ·obtain ⟨c0, c1, c2⟩ := hm.cells
    have hix : (Instr.index 44 (.agg #[.string s.k0, .string s.k1, .string s.k2]) (.int .i64 1)).run Tryz.prog wr = .ok (.string s.k1) wr := by kernel_rfl
    have HT : Hid (layT M.b s sid 2 = lay1 (layT M.b s sid 1) s.k1 sid (1 : Nat)) := rfl
    have hlk := hm.mb.look2 Tryz.underlying55 (zero_bl _) (show s.k1.size ≤ maxLen from HK.out 1)
    have HM := hid hm
    have HUU := hid hu
    cases hb : layT M.b s sid 1 s.k1 with
    | none =>
     dsimp only at hlk
     rw [hb] at hlk
     simp only [Option.map_none, Option.getD_none, Option.isSome_none] at hlk
     have HB := hid hb
     clear hb hm hu
     go_wp2_with fail
     go_roundw
     case rel => exact ⟨2, by omega, by go_num, by
      have e : layT M.b s sid 2 = layT M.b s sid 1 := by rw [HT.out]; unfold lay1; rw [HB.out]
      rw [e]
      exact (HM.out.nxt ((Up.refl _ _).alloc _)).mono (by omega), HUU.out.trans ((Up.refl _ _).alloc _)⟩
     case measure => simp [intOf]
    | some x =>
     obtain ⟨xn, xi, xp⟩ := x
     dsimp only at hlk
     rw [hb] at hlk
     simp only [Option.map_some, Option.getD_some, Option.isSome_some, blv] at hlk
     have HB := hid hb
     clear hb hm hu
     go_wp2_with fail
     obtain ⟨w3, hw3⟩ : ∃ W, W = wr.alloc (.cells #[.int .i64 xn, .int .i64 xi, .int .i64 xp] 51) := ⟨_, rfl⟩
     have u3 : Up Nul wr w3 := by rw [hw3]; exact (Up.refl _ _).alloc _
     have b3 : w3.heap[wr.heap.size]? = some (.cells #[.int .i64 xn, .int .i64 xi, .int .i64 xp] 51 (0, 0)) := by rw [hw3]; exact heap_alloc_new _ _
     rw [← hw3]
     clear hw3
     have h3 := HM.out.nxt u3
     obtain ⟨w4, hput, h4, u4⟩ := (h3.nxt (Up.refl _ _).drew).putB (by have := HN.out; omega) (show s.k1.size ≤ maxLen from HK.out 1) ⟨xn, sid, (1 : Nat)⟩
     obtain ⟨d0, d1, d2⟩ := h3.cells
     have x0 : w3.cell? ⟨wr.heap.size, 0, none⟩ = some (.int .i64 xn) := by simp [World.cell?, b3]
     have HPUT := hid hput
     have H4 := hid h4
     have HU4 : Hid (Up (Two bm bs) wr w4) := u3.nul.thn (Up.trans (Up.drew (Up.refl (fun k => k = bm) w3)) u4) (fun j e => .inl (.inl e))
     clear h3 h4 u3 u4 b3 hput c0 c1 c2 d1 d2 hlk
     go_still_tail 10, (by kernel_rfl)
     change wpList _ _ _ _ _ w3.drew
     refine wpList_put_eqv rfl _ _ _ _ rfl _ _ _ rfl rfl rfl HPUT.out ?_
     go_wp2
     go_roundw
     case rel => exact ⟨2, by omega, by go_num, by
      have e : layT M.b s sid 2 = upd (layT M.b s sid 1) s.k1 (some ⟨xn, sid, (1 : Nat)⟩) := by rw [HT.out]; unfold lay1; rw [HB.out]
      rw [e]
      exact H4.out.mono (by omega), HUU.out.trans HU4.out⟩
     case measure => simp [intOf]
   ·obtain ⟨c0, c1, c2⟩ := hm.cells
    have hix : (Instr.index 44 (.agg #[.string s.k0, .string s.k1, .string s.k2]) (.int .i64 2)).run Tryz.prog wr = .ok (.string s.k2) wr := by kernel_rfl
    have HT : Hid (layT M.b s sid 3 = lay1 (layT M.b s sid 2) s.k2 sid (2 : Nat)) := rfl
    have hlk := hm.mb.look2 Tryz.underlying55 (zero_bl _) (show s.k2.size ≤ maxLen from HK.out 2)
    have HM := hid hm
    have HUU := hid hu
    cases hb : layT M.b s sid 2 s.k2 with
    | none =>
     dsimp only at hlk
     rw [hb] at hlk
     simp only [Option.map_none, Option.getD_none, Option.isSome_none] at hlk
     have HB := hid hb
     clear hb hm hu
     go_wp2_with fail
     go_roundw
     case rel => exact ⟨3, by omega, by go_num, by
      have e : layT M.b s sid 3 = layT M.b s sid 2 := by rw [HT.out]; unfold lay1; rw [HB.out]
      rw [e]
      exact (HM.out.nxt ((Up.refl _ _).alloc _)).mono (by omega), HUU.out.trans ((Up.refl _ _).alloc _)⟩
     case measure => simp [intOf]
    | some x =>
     obtain ⟨xn, xi, xp⟩ := x
     dsimp only at hlk
     rw [hb] at hlk
     simp only [Option.map_some, Option.getD_some, Option.isSome_some, blv] at hlk
     have HB := hid hb
     clear hb hm hu
     go_wp2_with fail
     obtain ⟨w3, hw3⟩ : ∃ W, W = wr.alloc (.cells #[.int .i64 xn, .int .i64 xi, .int .i64 xp] 51) := ⟨_, rfl⟩
     have u3 : Up Nul wr w3 := by rw [hw3]; exact (Up.refl _ _).alloc _
     have b3 : w3.heap[wr.heap.size]? = some (.cells #[.int .i64 xn, .int .i64 xi, .int .i64 xp] 51 (0, 0)) := by rw [hw3]; exact heap_alloc_new _ _
     rw [← hw3]
     clear hw3
     have h3 := HM.out.nxt u3
     obtain ⟨w4, hput, h4, u4⟩ := (h3.nxt (Up.refl _ _).drew).putB (by have := HN.out; omega) (show s.k2.size ≤ maxLen from HK.out 2) ⟨xn, sid, (2 : Nat)⟩
     obtain ⟨d0, d1, d2⟩ := h3.cells
     have x0 : w3.cell? ⟨wr.heap.size, 0, none⟩ = some (.int .i64 xn) := by simp [World.cell?, b3]
     have HPUT := hid hput
     have H4 := hid h4
     have HU4 : Hid (Up (Two bm bs) wr w4) := u3.nul.thn (Up.trans (Up.drew (Up.refl (fun k => k = bm) w3)) u4) (fun j e => .inl (.inl e))
     clear h3 h4 u3 u4 b3 hput c0 c1 c2 d1 d2 hlk
     go_still_tail 10, (by kernel_rfl)
     change wpList _ _ _ _ _ w3.drew
     refine wpList_put_eqv rfl _ _ _ _ rfl _ _ _ rfl rfl rfl HPUT.out ?_
     go_wp2
     go_roundw
     case rel => exact ⟨3, by omega, by go_num, by
      have e : layT M.b s sid 3 = upd (layT M.b s sid 2) s.k2 (some ⟨xn, sid, (2 : Nat)⟩) := by rw [HT.out]; unfold lay1; rw [HB.out]
      rw [e]
      exact H4.out.mono (by omega), HUU.out.trans HU4.out⟩
     case measure => simp [intOf]
  ·obtain rfl : t = 3 := by omega
   have HM := hid hm
   have HUU := hid hu
   clear hm hu ht
   go_wp2
   go_end0
   refine ⟨rfl, ⟨upd Q sid (.slice (some ⟨g, 0, none⟩) L c), ?_⟩, HUU.out⟩
   rw [← HR.out]
   exact HM.out
end
def locsOfKind (k : Int) : Nat := if k = 1 then 3 else if k = 2 then 6 else 16
structure StOk (s : St) : Prop where
 kind : s.kind = 1 ∨ s.kind = 2 ∨ s.kind = 3
 locs : s.locs.length = locsOfKind s.kind
 co : 0 ≤ s.colour ∧ s.colour ≤ 2
 one : s.kind ≠ 3 → s.k1 = noK ∧ s.k2 = noK
 live : ∃ t, t < 3 ∧ s.key t ≠ noK
structure InvX (M : MM) (E : ByteArray → Prop) (L : Int) : Prop where
 b : ∀ k x, M.b k = some x → (k ≠ noK ∧ k.size ≤ 16) ∧ (¬ E k → ∃ t : Nat, t < 3 ∧ x.part = (t : Int) ∧ ∃ s, M.s x.sid = some s ∧ s.key t = k)
 s : ∀ i s, M.s i = some s → (1 ≤ i ∧ i ≤ L) ∧ StOk s ∧ ∀ t, t < 3 → s.key t ≠ noK → ¬ E (s.key t) ∧ ∃ x, M.b (s.key t) = some x ∧ x.sid = i ∧ x.part = (t : Int)
 e : ∀ k, E k → ∃ x, M.b k = some x
 l : 0 ≤ L ∧ L ≤ 2147483647
def MM.Inv3 (M : MM) : Prop := InvX M (fun _ => False) M.last
theorem inv_new : MM.new.Inv3 := ⟨fun k x h => (by cases h), fun i s h => (by cases h), fun k h => h.elim, by show (0 : Int) ≤ 0 ∧ (0 : Int) ≤ 2147483647; omega⟩
theorem off_key (s : St) {t u : Nat} (ht : t < 3) (hu : u < 3) : (s.off (t : Int)).key u = if u = t then noK else s.key u := by
 have h1 : t = 0 ∨ t = 1 ∨ t = 2 := by omega
 have h2 : u = 0 ∨ u = 1 ∨ u = 2 := by omega
 rcases h1 with rfl | rfl | rfl <;> rcases h2 with rfl | rfl | rfl <;> rfl
theorem dead_iff (s : St) : s.dead = true ↔ ∀ t, t < 3 → s.key t = noK := by
 unfold St.dead
 rw [decide_eq_true_eq]
 constructor
 ·rintro ⟨h0, h1, h2⟩ t ht
  have : t = 0 ∨ t = 1 ∨ t = 2 := by omega
  rcases this with rfl | rfl | rfl
  ·exact h0
  ·exact h1
  ·exact h2
 ·intro h
  exact ⟨h 0 (by omega), h 1 (by omega), h 2 (by omega)⟩
theorem inv_drop {M : MM} {L : Int} (h : InvX M (fun _ => False) L) (k : ByteArray) : InvX (M.drop k).2 (fun _ => False) L ∧ (M.drop k).2.b k = none := by
 unfold MM.drop
 cases hb : M.b k with
 | none => exact ⟨h, hb⟩
 | some x =>
  obtain ⟨⟨hk0, hk1⟩, hk2⟩ := h.b k x hb
  obtain ⟨t, ht, hp, s, hs, hkey⟩ := hk2 id
  dsimp only
  rw [hs]
  dsimp only
  refine ⟨⟨?_, ?_, fun _ e => e.elim, h.l⟩, upd_same _ _ _⟩
  ·intro k' x' hb'
   have hb' : upd M.b k none k' = some x' := hb'
   by_cases e : k' = k
   ·subst e; rw [upd_same] at hb'; cases hb'
   ·rw [upd_ne _ _ e] at hb'
    obtain ⟨a1, a2⟩ := h.b k' x' hb'
    refine ⟨a1, fun _ => ?_⟩
    obtain ⟨t', ht', hp', s', hs', hkey'⟩ := a2 id
    by_cases ei : x'.sid = x.sid
    ·rw [ei, hs] at hs'
     cases hs'
     have hne : t' ≠ t := fun e' => e (by rw [← hkey', e', hkey])
     have hnd : (s.off x.part).key t' = k' := by rw [hp, off_key s ht ht', if_neg hne, hkey']
     have hl : (s.off x.part).dead = false := by
      rw [Bool.eq_false_iff]
      intro hd
      exact a1.1 (by rw [← hnd]; exact (dead_iff _).1 hd t' ht')
     refine ⟨t', ht', hp', s.off x.part, ?_, hnd⟩
     show upd M.s x.sid _ x'.sid = _
     rw [ei, upd_same, hl]; rfl
    ·exact ⟨t', ht', hp', s', by show upd M.s x.sid _ x'.sid = _; rw [upd_ne _ _ ei]; exact hs', hkey'⟩
  ·intro i s' hs'
   by_cases ei : i = x.sid
   ·subst ei
    have hs' : upd M.s x.sid (if (s.off x.part).dead = true then none else some (s.off x.part)) x.sid = some s' := hs'
    rw [upd_same] at hs'
    cases hd : (s.off x.part).dead with
    | true => rw [hd] at hs'; cases hs'
    | false =>
     rw [hd] at hs'
     have e' : s.off x.part = s' := by simpa using hs'
     subst e'
     obtain ⟨b1, b2, b3⟩ := h.s _ _ hs
     have hfl : ∃ u, u < 3 ∧ (s.off x.part).key u ≠ noK := by
      rcases Classical.em (∃ u, u < 3 ∧ (s.off x.part).key u ≠ noK) with e | e
      ·exact e
      ·exfalso
       have : (s.off x.part).dead = true := (dead_iff _).2 fun u hu => by
        rcases Classical.em ((s.off x.part).key u = noK) with e1 | e1
        ·exact e1
        ·exact absurd ⟨u, hu, e1⟩ e
       rw [hd] at this; cases this
     have hkind : (s.off x.part).kind = s.kind ∧ (s.off x.part).locs = s.locs ∧ (s.off x.part).colour = s.colour := by
      unfold St.off
      split
      ·exact ⟨rfl, rfl, rfl⟩
      ·split <;> exact ⟨rfl, rfl, rfl⟩
     refine ⟨b1, ⟨by rw [hkind.1]; exact b2.kind, by rw [hkind.1, hkind.2.1]; exact b2.locs, by rw [hkind.2.2]; exact b2.co, fun hn => ?_, hfl⟩, ?_⟩
     ·rw [hkind.1] at hn
      obtain ⟨o1, o2⟩ := b2.one hn
      have h1 : (s.off x.part).key 1 = noK := by rw [hp, off_key s ht (by omega)]; split; rfl; exact o1
      have h2 : (s.off x.part).key 2 = noK := by rw [hp, off_key s ht (by omega)]; split; rfl; exact o2
      exact ⟨h1, h2⟩
     ·intro u hu hku
      have hut : u ≠ t := fun e' => hku (by rw [hp, off_key s ht hu, if_pos e'])
      have e1 : (s.off x.part).key u = s.key u := by rw [hp, off_key s ht hu, if_neg hut]
      rw [e1] at hku ⊢
      obtain ⟨_, y, y1, y2, y3⟩ := b3 u hu hku
      refine ⟨id, y, ?_, y2, y3⟩
      have hne : s.key u ≠ k := fun e' => by
       rw [e', hb] at y1
       cases y1
       rw [hp] at y3
       omega
      show upd M.b k none (s.key u) = some y
      rw [upd_ne _ _ hne]; exact y1
   ·have hs' : upd M.s x.sid (if (s.off x.part).dead = true then none else some (s.off x.part)) i = some s' := hs'
    rw [upd_ne _ _ ei] at hs'
    obtain ⟨b1, b2, b3⟩ := h.s _ _ hs'
    refine ⟨b1, b2, fun u hu hku => ?_⟩
    obtain ⟨_, y, y1, y2, y3⟩ := b3 u hu hku
    refine ⟨id, y, ?_, y2, y3⟩
    have hne : s'.key u ≠ k := fun e' => by
     rw [e', hb] at y1
     cases y1
     exact ei y2.symm
    show upd M.b k none (s'.key u) = some y
    rw [upd_ne _ _ hne]; exact y1
theorem inv_putB {M : MM} {L : Int} (h : InvX M (fun _ => False) L) {k : ByteArray} (hk : M.b k = none) (h1 : k ≠ noK ∧ k.size ≤ 16) (y : Bl) : InvX { M with b := upd M.b k (some y) } (fun k' => k' = k) L where
 b k' x hb := by
  by_cases e : k' = k
  ·subst e; exact ⟨h1, fun hn => absurd rfl hn⟩
  ·have hb : upd M.b k (some y) k' = some x := hb
   rw [upd_ne _ _ e] at hb
   obtain ⟨a1, a2⟩ := h.b k' x hb
   exact ⟨a1, fun _ => a2 id⟩
 s i s hs := by
  obtain ⟨b1, b2, b3⟩ := h.s i s hs
  refine ⟨b1, b2, fun t ht hkt => ?_⟩
  obtain ⟨_, x, x1, x2, x3⟩ := b3 t ht hkt
  have hne : s.key t ≠ k := fun e => by rw [e, hk] at x1; cases x1
  exact ⟨hne, x, by show upd M.b k (some y) (s.key t) = some x; rw [upd_ne _ _ hne]; exact x1, x2, x3⟩
 e k' e := ⟨y, by subst e; exact upd_same _ _ _⟩
 l := h.l
theorem layT_b (b : ByteArray → Option Bl) (s : St) (sid : Int) : ∀ (n : Nat) (hn : n ≤ 3) (k : ByteArray),
  ((∀ t, t < n → s.key t ≠ k) → layT b s sid n k = b k) ∧ (∀ x, b k = some x → ∃ y, layT b s sid n k = some y ∧ y.n = x.n) ∧ (b k = none → layT b s sid n k = none) ∧
  (∀ t, t < n → s.key t = k → (∀ u, u < n → u ≠ t → s.key u ≠ k) → ∀ x, b k = some x → layT b s sid n k = some ⟨x.n, sid, (t : Int)⟩)
 | 0, _, k => ⟨fun _ => rfl, fun x hx => ⟨x, hx, rfl⟩, fun h => h, fun t ht => absurd ht (by omega)⟩
 | n + 1, hn, k => by
  obtain ⟨i1, i2, i3, i4⟩ := layT_b b s sid n (by omega) k
  have hst : layT b s sid (n + 1) = lay1 (layT b s sid n) (s.key n) sid (n : Nat) := rfl
  rw [hst]
  unfold lay1
  cases hb : layT b s sid n (s.key n) with
  | none =>
   refine ⟨fun h => i1 fun t ht => h t (by omega), i2, i3, fun t ht e hu x hx => ?_⟩
   by_cases et : t = n
   ·subst et
    rw [e] at hb
    obtain ⟨y, hy, _⟩ := i2 x hx
    rw [hb] at hy; cases hy
   ·exact i4 t (by omega) e (fun u hu' => hu u (by omega)) x hx
  | some z =>
   dsimp only
   by_cases e : k = s.key n
   ·subst e
    refine ⟨fun h => absurd rfl (h n (by omega)), fun x hx => ?_, fun h => ?_, fun t ht e hu x hx => ?_⟩
    ·rw [upd_same]
     obtain ⟨y, hy, hyn⟩ := i2 x hx
     rw [hb] at hy; cases hy
     exact ⟨_, rfl, hyn⟩
    ·rw [i3 h] at hb; cases hb
    ·rw [upd_same]
     have et : t = n := by
      rcases Nat.lt_or_ge t n with h | h
      ·exact absurd rfl (hu n (by omega) (by omega))
      ·omega
     subst et
     obtain ⟨y, hy, hyn⟩ := i2 x hx
     rw [hb] at hy; cases hy
     rw [hyn]
   ·rw [upd_ne _ _ e]
    refine ⟨fun h => i1 fun t ht => h t (by omega), i2, i3, fun t ht e' hu x hx => ?_⟩
    have et : t ≠ n := fun e'' => e (by rw [← e', e''])
    exact i4 t (by omega) e' (fun u hu' => hu u (by omega)) x hx
theorem inv_lay {M : MM} {E : ByteArray → Prop} {L sid : Int} (h : InvX M E L) (s : St) (hs : StOk s) (hE : ∀ t, t < 3 → s.key t ≠ noK → E (s.key t)) (hd : ∀ t u, t < 3 → u < 3 → t ≠ u → s.key t ≠ noK → s.key t ≠ s.key u) (hi : L < sid) (hi2 : sid ≤ 2147483647) :
  InvX (M.lay sid s) (fun k => E k ∧ ∀ t, t < 3 → s.key t ≠ k) sid := by
 have hl := h.l
 have hbl : (M.lay sid s).b = layT M.b s sid 3 := rfl
 have hsl : (M.lay sid s).s = upd M.s sid (some s) := rfl
 have hno : M.s sid = none := by
  cases e : M.s sid with
  | none => rfl
  | some s' => have := (h.s _ _ e).1.2; omega
 have hat : ∀ t, t < 3 → s.key t ≠ noK → ∃ x, (M.lay sid s).b (s.key t) = some x ∧ x.sid = sid ∧ x.part = (t : Int) := fun t ht hk => by
  obtain ⟨x, hx⟩ := h.e _ (hE t ht hk)
  have := (layT_b M.b s sid 3 (by omega) (s.key t)).2.2.2 t ht rfl (fun u hu hne => fun e => hd t u ht hu (fun e => hne e.symm) hk e.symm) x hx
  exact ⟨_, by rw [hbl]; exact this, rfl, rfl⟩
 constructor
 ·intro k x hb
  have hk : ∃ x0, M.b k = some x0 := by
   cases e : M.b k with
   | some x0 => exact ⟨x0, rfl⟩
   | none =>
    have := (layT_b M.b s sid 3 (by omega) k).2.2.1 e
    rw [hbl, this] at hb; cases hb
  obtain ⟨x0, hx0⟩ := hk
  obtain ⟨a1, a2⟩ := h.b k x0 hx0
  refine ⟨a1, fun hnE => ?_⟩
  by_cases hin : ∃ t, t < 3 ∧ s.key t = k
  ·obtain ⟨t, ht, hkt⟩ := hin
   have hne : s.key t ≠ noK := by rw [hkt]; exact a1.1
   obtain ⟨y, y1, y2, y3⟩ := hat t ht hne
   rw [hkt, hb] at y1
   cases y1
   exact ⟨t, ht, y3, s, by rw [hsl, y2, upd_same], hkt⟩
  ·have hno' : ∀ t, t < 3 → s.key t ≠ k := fun t ht e => hin ⟨t, ht, e⟩
   have hsame := (layT_b M.b s sid 3 (by omega) k).1 hno'
   rw [hbl, hsame, hx0] at hb
   cases hb
   obtain ⟨t, ht, hp, s', hs', hk'⟩ := a2 fun e => hnE ⟨e, hno'⟩
   refine ⟨t, ht, hp, s', ?_, hk'⟩
   rw [hsl, upd_ne _ _ (fun e => by rw [e, hno] at hs'; cases hs')]
   exact hs'
 ·intro i s' hs'
  rw [hsl] at hs'
  by_cases e : i = sid
  ·subst e
   rw [upd_same] at hs'
   cases hs'
   exact ⟨⟨by omega, Int.le_refl _⟩, hs, fun t ht hk => ⟨fun hh => hh.2 t ht rfl, hat t ht hk⟩⟩
  ·rw [upd_ne _ _ e] at hs'
   obtain ⟨b1, b2, b3⟩ := h.s i s' hs'
   refine ⟨⟨b1.1, by omega⟩, b2, fun t ht hk => ?_⟩
   obtain ⟨hn, x, x1, x2, x3⟩ := b3 t ht hk
   refine ⟨fun hh => hn hh.1, x, ?_, x2, x3⟩
   have hne : ∀ u, u < 3 → s.key u ≠ s'.key t := fun u hu e' => by
    have h1 : s.key u ≠ noK := by rw [e']; exact hk
    exact hn (by rw [← e']; exact hE u hu h1)
   rw [hbl, (layT_b M.b s sid 3 (by omega) (s'.key t)).1 hne]
   exact x1
 ·rintro k ⟨hk, hn⟩
  obtain ⟨x, hx⟩ := h.e k hk
  exact ⟨x, by rw [hbl, (layT_b M.b s sid 3 (by omega) k).1 hn]; exact hx⟩
 ·omega
theorem InvX.less {M : MM} {E E' : ByteArray → Prop} {L : Int} (h : InvX M E L) (he : ∀ k, E k ↔ E' k) : InvX M E' L :=
 ⟨fun k x hb => ⟨(h.b k x hb).1, fun hn => (h.b k x hb).2 fun e => hn ((he k).1 e)⟩, fun i s hs => ⟨(h.s i s hs).1, (h.s i s hs).2.1, fun t ht hk => ⟨fun e => ((h.s i s hs).2.2 t ht hk).1 ((he _).2 e), ((h.s i s hs).2.2 t ht hk).2⟩⟩, fun k e => h.e k ((he k).2 e), h.l⟩
theorem inv_put {M : MM} {L : Int} (h : InvX M (fun _ => False) L) (r : Rc) (hk : r.key ≠ noK ∧ r.key.size ≤ 16) (hl : r.locs.length = 3) (hi : L < r.sid) (hi2 : r.sid ≤ 2147483647) : InvX (M.put r).2 (fun _ => False) r.sid := by
 obtain ⟨h1, h2⟩ := inv_drop h r.key
 have h3 := inv_putB h1 h2 hk ⟨r.n, 0, 0⟩
 have h4 := inv_lay h3 ⟨1, 0, r.key, noK, noK, r.locs⟩ ⟨.inl rfl, hl, by show (0 : Int) ≤ 0 ∧ (0 : Int) ≤ 2; omega, fun _ => ⟨rfl, rfl⟩, ⟨0, by omega, hk.1⟩⟩ (fun t ht hn => by
  have : t = 0 ∨ t = 1 ∨ t = 2 := by omega
  rcases this with rfl | rfl | rfl
  ·rfl
  ·exact absurd rfl hn
  ·exact absurd rfl hn) (fun t u ht hu hne hn => by
  have : t = 0 ∨ t = 1 ∨ t = 2 := by omega
  rcases this with rfl | rfl | rfl
  ·have : u = 1 ∨ u = 2 := by omega
   rcases this with rfl | rfl
   ·exact hn
   ·exact hn
  ·exact absurd rfl hn
  ·exact absurd rfl hn) hi hi2
 exact h4.less fun k => ⟨fun e => e.2 0 (by omega) e.1.symm, fun e => e.elim⟩
end Go.Proofs.YtepggchnhgpcnaaGreatDoor
