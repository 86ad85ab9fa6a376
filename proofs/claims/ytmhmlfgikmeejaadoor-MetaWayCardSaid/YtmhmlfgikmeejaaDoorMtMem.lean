/- A Meta in memory. -/
import Derived.Test.YtmhmlfgikmeejaaDoorMtModel
namespace Go.Proofs.YtmhmlfgikmeejaaDoor
open Go.RowKit Go.Maps
set_option linter.unusedVariables false

/-- The head of a Meta. -/
abbrev mhead (bm bs : Nat) (last : Int) (t : Tb) : Array Value := #[.map (some bm), .map (some bs), .int .i64 last, .int .i64 t.hot, .int .i64 t.warm, .int .i64 t.gap, .int .i64 t.add, .int .i64 t.top, .int .i64 t.half]
/-- A Meta at block p: its maps at bm and bs (of at most n entries each), each Stripe's Locs in a block of its own; all within F. -/
structure MT (F : Nat → Prop) (w : World) (p bm bs n : Nat) (Q : Int → Value) (M : MM) : Prop where
  hp : w.heap[p]? = some (.cells (mhead bm bs M.last M.t) 57 (0, 0))
  mb : MapS w bm n fun k => (M.b k).map blv
  ms : MapI w bs n fun i => (M.s i).map fun s => stv s (Q i)
  row : ∀ i s, M.s i = some s → ∃ g c, Q i = .slice (some ⟨g, 0, none⟩) s.locs.length c ∧ F g ∧ OwnLo 0 w (Q i) s.locs
  dis : ∀ i j s s', M.s i = some s → M.s j = some s' → i ≠ j → (Q i).ownBlock ≠ (Q j).ownBlock
  fp : F p
  fm : F bm
  fs : F bs
  nb : bm ≠ bs
section
variable {F S : Nat → Prop} {w w' : World} {p bm bs n : Nat} {Q : Int → Value} {M : MM}
theorem MT.lt (h : MT F w p bm bs n Q M) : p < w.heap.size := (Array.getElem?_eq_some_iff.1 h.hp).1
theorem MT.pm (h : MT F w p bm bs n Q M) : p ≠ bm := fun e => by
  have h1 := h.mb.noCell 0
  rw [← e] at h1
  simp [World.cell?, h.hp] at h1
theorem MT.ps (h : MT F w p bm bs n Q M) : p ≠ bs := fun e => by
  have h1 := h.ms.noCell 0
  rw [← e] at h1
  simp [World.cell?, h.hp] at h1
theorem lo_ne_meta : (36 : TypeId) ≠ 57 := by decide
theorem lo_block {v : Value} {ls : List Lo} {g c l : Nat} (h : OwnLo 0 w v ls) (e : v = .slice (some ⟨g, 0, none⟩) l c) : ∃ cur, w.heap[g]? = some (.cells cur 36 (0, 0)) := by
  rcases h.2 with ⟨e1, _⟩ | ⟨g', cap, cur, e1, _, h3, _⟩
  · rw [e] at e1; cases e1
  · rw [e] at e1; injection e1 with e1; injection e1 with e1; injection e1 with e1; exact ⟨cur, by rw [e1]; exact h3⟩
theorem MT.rp (h : MT F w p bm bs n Q M) {i : Int} {s : St} (hs : M.s i = some s) : (Q i).ownBlock ≠ some p := by
  obtain ⟨g, c, e, _, ho⟩ := h.row i s hs
  obtain ⟨cur, hc⟩ := lo_block ho e
  rw [e]
  intro e1
  have e1 : g = p := by injection e1
  rw [e1, h.hp] at hc
  injection hc with hc
  injection hc with _ hc
  exact absurd hc.symm lo_ne_meta
theorem MT.rm (h : MT F w p bm bs n Q M) {i : Int} {s : St} (hs : M.s i = some s) : (Q i).ownBlock ≠ some bm ∧ (Q i).ownBlock ≠ some bs := by
  obtain ⟨g, c, e, _, ho⟩ := h.row i s hs
  obtain ⟨cur, hc⟩ := lo_block ho e
  rw [e]
  refine ⟨fun e1 => ?_, fun e1 => ?_⟩
  · have e1 : g = bm := by injection e1
    obtain ⟨D, ⟨es, clock, hb, _⟩, _⟩ := h.mb
    rw [← e1, hc] at hb
    cases hb
  · have e1 : g = bs := by injection e1
    obtain ⟨D, ⟨es, clock, hb, _⟩, _⟩ := h.ms
    rw [← e1, hc] at hb
    cases hb
theorem lo_up {v : Value} {ls : List Lo} (h : OwnLo 0 w v ls) (u : Up S w w') (hs : ∀ g, v.ownBlock = some g → ¬ S g) : OwnLo 0 w' v ls := by
  refine ⟨h.1, ?_⟩
  rcases h.2 with hn | ⟨g, cap, cur, h1, h2, h3, h4⟩
  · exact .inl hn
  · have hl := (Array.getElem?_eq_some_iff.1 h3).1
    exact .inr ⟨g, cap, cur, h1, h2, (u.block g hl (hs g (by rw [h1]; rfl))).trans h3, h4⟩
/-- What turns none of its blocks leaves it. -/
theorem MT.up (h : MT F w p bm bs n Q M) (u : Up S w w') (hs : ∀ k, F k → ¬ S k) : MT F w' p bm bs n Q M where
  hp := (u.block p h.lt (hs p h.fp)).trans h.hp
  mb := h.mb.up u (hs bm h.fm)
  ms := h.ms.up u (hs bs h.fs)
  row i s e := by
    obtain ⟨g, c, e1, e2, e3⟩ := h.row i s e
    exact ⟨g, c, e1, e2, lo_up e3 u fun k hk => by rw [e1] at hk; have e4 : g = k := by injection hk
                                                   rw [← e4]; exact hs g e2⟩
  dis := h.dis
  fp := h.fp
  fm := h.fm
  fs := h.fs
  nb := h.nb
theorem MT.nxt (h : MT F w p bm bs n Q M) (u : Up Nul w w') : MT F w' p bm bs n Q M := h.up u fun _ _ => id
theorem MT.wide {G : Nat → Prop} (h : MT F w p bm bs n Q M) (hg : ∀ k, F k → G k) : MT G w p bm bs n Q M :=
  ⟨h.hp, h.mb, h.ms, fun i s e => by obtain ⟨g, c, e1, e2, e3⟩ := h.row i s e; exact ⟨g, c, e1, hg g e2, e3⟩, h.dis, hg _ h.fp, hg _ h.fm, hg _ h.fs, h.nb⟩
theorem MT.mono (h : MT F w p bm bs n Q M) {m : Nat} (hm : n ≤ m) : MT F w p bm bs m Q M := ⟨h.hp, h.mb.mono hm, h.ms.mono hm, h.row, h.dis, h.fp, h.fm, h.fs, h.nb⟩
/-- Another world in which the map of blobs is another one. -/
theorem MT.setB (h : MT F w p bm bs n Q M) {m : Nat} (hm : n ≤ m) {f : ByteArray → Option Bl} (h' : MapS w' bm m fun k => (f k).map blv) (u : Up (fun k => k = bm) w w') : MT F w' p bm bs m Q { M with b := f } where
  hp := (u.block p h.lt h.pm).trans h.hp
  mb := h'
  ms := (h.ms.up u fun e => h.nb e.symm).mono hm
  row i s e := by
    obtain ⟨g, c, e1, e2, e3⟩ := h.row i s e
    exact ⟨g, c, e1, e2, lo_up e3 u fun k hk e4 => (h.rm e).1 (by rw [hk, e4])⟩
  dis := h.dis
  fp := h.fp
  fm := h.fm
  fs := h.fs
  nb := h.nb
/-- Another world in which the map of Stripes is another one. -/
theorem MT.setS (h : MT F w p bm bs n Q M) {m : Nat} (hm : n ≤ m) {f : Int → Option St} {Q' : Int → Value} (h' : MapI w' bs m fun i => (f i).map fun s => stv s (Q' i)) (u : Up (fun k => k = bs) w w')
    (hr : ∀ i s, f i = some s → ∃ g c, Q' i = .slice (some ⟨g, 0, none⟩) s.locs.length c ∧ F g ∧ OwnLo 0 w' (Q' i) s.locs) (hd : ∀ i j s s', f i = some s → f j = some s' → i ≠ j → (Q' i).ownBlock ≠ (Q' j).ownBlock) : MT F w' p bm bs m Q' { M with s := f } where
  hp := (u.block p h.lt h.ps).trans h.hp
  mb := (h.mb.up u h.nb).mono hm
  ms := h'
  row := hr
  dis := hd
  fp := h.fp
  fm := h.fm
  fs := h.fs
  nb := h.nb
theorem map_upd {α β γ : Type} [DecidableEq α] (f : α → Option β) (k : α) (v : Option β) (g : β → γ) : (fun x => (upd f k v x).map g) = upd (fun x => (f x).map g) k (v.map g) := by
  funext x
  unfold upd
  split <;> rfl
theorem bind_upd {α β γ : Type} [DecidableEq α] (f : α → Option β) (k : α) (v : Option β) (g : α → β → γ) : (fun x => (upd f k v x).map (g x)) = upd (fun x => (f x).map (g x)) k (v.map (g k)) := by
  funext x
  unfold upd
  split
  · rename_i e; rw [e]
  · rfl
/-- 'm.blobs[k] = b'. -/
theorem MT.putB (h : MT F w p bm bs n Q M) (hn : n < maxLen) {k : ByteArray} (hk : k.size ≤ maxLen) (x : Bl) :
    ∃ w', (Instr.mapUpdate 54 (.map (some bm)) (.string k) (blv x)).run Tryd.prog w = .ok () w' ∧ MT F w' p bm bs (n + 1) Q { M with b := upd M.b k (some x) } ∧ Up (fun k => k = bm) w w' := by
  obtain ⟨w', h1, h2, h3⟩ := h.mb.put (t := 54) (e := 47) Tryd.underlying54 hn hk (blv x)
  exact ⟨w', h1, h.setB (Nat.le_succ n) (by rw [map_upd]; exact h2) h3, h3⟩
/-- 'delete(m.blobs, k)'. -/
theorem MT.delB (h : MT F w p bm bs n Q M) {k : ByteArray} (hk : k.size ≤ maxLen) (ty : TypeId) :
    ∃ w', (Builtin.delete_ #[54, 9] ty #[.map (some bm), .string k]).run Tryd.prog w = .ok (.tuple #[]) w' ∧ MT F w' p bm bs n Q { M with b := upd M.b k none } ∧ Up (fun k => k = bm) w w' := by
  obtain ⟨w', h1, h2, h3⟩ := h.mb.del (t := 54) (e := 47) Tryd.underlying54 hk ty
  exact ⟨w', h1, h.setB (Nat.le_refl n) (by rw [map_upd]; exact h2) h3, h3⟩
theorem wfI {x : Int} (h : 0 ≤ x) (h2 : x ≤ 2147483647) : (Lit.int .i64 x).wf = true := by
  exact WalkArith.wf_i64 (by omega)
/-- 'm.stripes[i] = s', over Locs that are as they were, or new. -/
theorem MT.putS (h : MT F w p bm bs n Q M) (hn : n < maxLen) {i : Int} (hi : (Lit.int .i64 i).wf = true) (s : St) (v : Value) (hv : ∃ g c, v = .slice (some ⟨g, 0, none⟩) s.locs.length c ∧ F g ∧ OwnLo 0 w v s.locs)
    (hd : ∀ j s', M.s j = some s' → i ≠ j → v.ownBlock ≠ (Q j).ownBlock) :
    ∃ w', (Instr.mapUpdate 55 (.map (some bs)) (.int .i64 i) (stv s v)).run Tryd.prog w = .ok () w' ∧ MT F w' p bm bs (n + 1) (upd Q i v) { M with s := upd M.s i (some s) } ∧ Up (fun k => k = bs) w w' := by
  obtain ⟨w', h1, h2, h3⟩ := h.ms.put (t := 55) (e := 43) Tryd.underlying55 hn hi (stv s v)
  have hbs : v.ownBlock ≠ some bs := by
    obtain ⟨g, c, e, _, ho⟩ := hv
    obtain ⟨cur, hc⟩ := lo_block ho e
    rw [e]
    intro e1
    have e1 : g = bs := by injection e1
    obtain ⟨D, ⟨es, clock, hb, _⟩, _⟩ := h.ms
    rw [← e1, hc] at hb
    cases hb
  refine ⟨w', h1, h.setS (Nat.le_succ n) ?_ h3 ?_ ?_, h3⟩
  · have e : (fun j => (upd M.s i (some s) j).map fun s => stv s (upd Q i v j)) = upd (fun x => (M.s x).map fun s => stv s (Q x)) i (some (stv s v)) := by
      funext x
      unfold upd
      by_cases hx : x = i
      · rw [if_pos hx, if_pos hx]; simp [hx]
      · rw [if_neg hx, if_neg hx]; simp [hx]
    rw [e]
    exact h2
  · intro j s' hj
    by_cases hx : j = i
    · subst hx
      rw [upd_same] at hj ⊢
      cases hj
      obtain ⟨g, c, e, e2, e3⟩ := hv
      exact ⟨g, c, e, e2, lo_up e3 h3 fun k hk e4 => hbs (by rw [hk, e4])⟩
    · rw [upd_ne _ _ hx] at hj ⊢
      obtain ⟨g, c, e1, e2, e3⟩ := h.row j s' hj
      exact ⟨g, c, e1, e2, lo_up e3 h3 fun k hk e4 => (h.rm hj).2 (by rw [hk, e4])⟩
  · intro j j' s1 s2 h1' h2' hne
    by_cases hx : j = i
    · subst hx
      have hy : j' ≠ j := fun e => hne e.symm
      rw [upd_ne _ _ hy] at h2' ⊢
      rw [upd_same]
      exact hd j' s2 h2' hne
    · rw [upd_ne _ _ hx] at h1' ⊢
      by_cases hy : j' = i
      · subst hy
        rw [upd_same]
        exact fun e => hd j s1 h1' (fun e => hx e.symm) e.symm
      · rw [upd_ne _ _ hy] at h2' ⊢
        exact h.dis j j' s1 s2 h1' h2' hne
/-- 'delete(m.stripes, i)'. -/
theorem MT.delS (h : MT F w p bm bs n Q M) {i : Int} (hi : (Lit.int .i64 i).wf = true) (ty : TypeId) :
    ∃ w', (Builtin.delete_ #[55, 3] ty #[.map (some bs), .int .i64 i]).run Tryd.prog w = .ok (.tuple #[]) w' ∧ MT F w' p bm bs n Q { M with s := upd M.s i none } ∧ Up (fun k => k = bs) w w' := by
  obtain ⟨w', h1, h2, h3⟩ := h.ms.del (t := 55) (e := 43) Tryd.underlying55 hi ty
  refine ⟨w', h1, h.setS (Nat.le_refl n) ?_ h3 ?_ ?_, h3⟩
  · rw [bind_upd M.s i none (fun i s => stv s (Q i))]
    exact h2
  · intro j s hj
    by_cases hx : j = i
    · subst hx; rw [upd_same] at hj; cases hj
    · rw [upd_ne _ _ hx] at hj
      obtain ⟨g, c, e1, e2, e3⟩ := h.row j s hj
      exact ⟨g, c, e1, e2, lo_up e3 h3 fun k hk e4 => (h.rm hj).2 (by rw [hk, e4])⟩
  · intro j j' s1 s2 h1' h2' hne
    refine h.dis j j' s1 s2 ?_ ?_ hne
    · by_cases hx : j = i
      · subst hx; rw [upd_same] at h1'; cases h1'
      · rw [upd_ne _ _ hx] at h1'; exact h1'
    · by_cases hx : j' = i
      · subst hx; rw [upd_same] at h2'; cases h2'
      · rw [upd_ne _ _ hx] at h2'; exact h2'
end
end Go.Proofs.YtmhmlfgikmeejaaDoor
