/- What a law asks of the program's Trio; a Trio and its three Tapes as a law holds them. -/
import Derived.Test.YtencinajieicpaaTrStr
namespace Go.Proofs.Ytencinajieicpaa
open Go.RowKit
set_option linter.unusedVariables false

/-- Three pointers. -/
def tri (q : Nat → Nat) : Value := .agg #[.pointer (some ⟨q 0, 0, none⟩), .pointer (some ⟨q 1, 0, none⟩), .pointer (some ⟨q 2, 0, none⟩)]
/-- What a call leaves of a Trio and its Tapes. -/
structure Qd (PQ : World → Nat → (Nat → Nat) → Nat → Option Nat → (Nat → TS) → (Nat → Prop) → Prop) (w w' : World) (t : Nat) (q : Nat → Nat) (N : Nat) (fu k' : Option Nat) (T : Nat → Prop) (S' : Nat → TS) : Prop where
  ex : ∃ T', PQ w' t q N fu S' T' ∧ ∀ g, T' g → T g ∨ w.heap.size ≤ g
  up : Up (fun g => T g ∨ fu = some g) w w'
  fz : FzO w' fu k'
/-- The state of a Tape that is not live tells nothing. -/
def Alk (s s' : TS) : Prop := s'.live = s.live ∧ (s.live = true → s' = s)
theorem Alk.refl (s : TS) : Alk s s := ⟨rfl, fun _ => rfl⟩
structure TrioOps : Type where
  O : TapeOps
  PQ : World → Nat → (Nat → Nat) → Nat → Option Nat → (Nat → TS) → (Nat → Prop) → Prop
  lt : ∀ {w t q N fu S T}, PQ w t q N fu S T → ∀ g, T g → g < w.heap.size
  le : ∀ {w t q N fu S T}, PQ w t q N fu S T → ∀ i, i < 3 → (S i).live = true → (S i).B.length ≤ 65536 ∧ (S i).loose ≤ (S i).B.length ∧ ∀ v ∈ (S i).B, v < 256
  nf : ∀ {w t q N fu k S T}, PQ w t q N fu S T → FzO w fu k → ∀ f, fu = some f → ¬ T f
  keep : ∀ {w w' t q N fu S T} {X : Nat → Prop}, PQ w t q N fu S T → Up X w w' → (∀ g, T g → ¬ X g) → PQ w' t q N fu S T
  same : ∀ {w t q N fu S T} {S' : Nat → TS}, PQ w t q N fu S T → (∀ i, i < 3 → Alk (S i) (S' i)) → PQ w t q N fu S' T
  one : ∀ {w t q N fu k S T}, PQ w t q N fu S T → FzO w fu k → ∀ i, i < 3 → ∃ F s, (∀ g, F g → T g) ∧ O.PT w (q i) fu s F ∧ Alk (S i) s ∧ ∀ w' k' s', Td O.PT w w' (q i) fu k' F s' → Qd PQ w w' t q N fu k' T (updT S i s')
  new : ∀ {w : World} {fu k : Option Nat}, FzO w fu k → Calls Try.prog 10 #[.pointer (fp fu)] w fun e w' => ∃ t q T, e = .returned (.pointer (some ⟨t, 0, none⟩)) ∧ PQ w' t q 0 fu (fun _ => ⟨[], 0, true⟩) T ∧ Up Nul w w' ∧ ∀ g, T g → w.heap.size ≤ g
  tapes : ∀ {w t q N fu S T}, PQ w t q N fu S T → Calls Try.prog 12 #[.pointer (some ⟨t, 0, none⟩)] w fun e w' => e = .returned (tri q) ∧ Up Nul w w'
  append : ∀ {w t q N fu k S T}, PQ w t q N fu S T → FzO w fu k → N ≤ 1000000 → ∀ (a : Option Addr) (l c : Nat) (z : List Nat), SlN w a l z → l ≤ c → l ≤ 100000 → (l = 0 ∨ ∀ x, a = some x → ¬ T x.block ∧ fu ≠ some x.block) →
    Calls Try.prog 14 #[.pointer (some ⟨t, 0, none⟩), .slice a l c] w fun e w' =>
      e = .returned (.int .i64 (tApp S k z).1) ∧ Qd PQ w w' t q (if (tApp S k z).1 = 0 then N + 1 else N) fu (tApp S k z).2.2 T (tApp S k z).2.1
  openT : ∀ {w t q N fu k S T}, PQ w t q N fu S T → FzO w fu k → Calls Try.prog 18 #[tri q] w fun e w' =>
      ((tOpn S k).1 = 0 ∧ ∃ t' v, e = .returned (.tuple #[.pointer (some ⟨t', 0, none⟩), v, .int .i64 0]) ∧ RRs w' v (tOpn S k).2.1 ∧ Qd PQ w w' t' q (tOpn S k).2.1.length fu (tOpn S k).2.2.2 T (tOpn S k).2.2.1) ∨
      (¬ (tOpn S k).1 = 0 ∧ ∃ a c, e = .returned (.tuple #[.pointer none, .slice a 0 c, .int .i64 (tOpn S k).1]) ∧ Qd PQ w w' t q N fu (tOpn S k).2.2.2 T (tOpn S k).2.2.1)
  mend : ∀ {w t q N fu k S T}, PQ w t q N fu S T → FzO w fu k → ∀ x : Int, Calls Try.prog 17 #[.pointer (some ⟨t, 0, none⟩), .int .i64 x] w fun e w' =>
      e = .returned (.int .i64 (tMnd S k x).1) ∧ Qd PQ w w' t q N fu (tMnd S k x).2.2 T (tMnd S k x).2.1
  records : ∀ {w t q N fu S T}, PQ w t q N fu S T → Calls Try.prog 21 #[.pointer (some ⟨t, 0, none⟩)] w fun e w' => e = .returned (.int .i64 (N : Nat)) ∧ Up Nul w w'
  split : ∀ {w : World} (a : Option Addr) (l c : Nat) (z : List Nat), SlN w a l z → l ≤ c → l ≤ 100000 → Calls Try.prog 23 #[.slice a l c] w fun e w' =>
      ∃ v, e = .returned (.tuple #[v, .int .i64 ((flt (spl z)).length : Nat)]) ∧ RRs w' v (spl z) ∧ Up Nul w w'
/-- A Trio as a law holds it, with its Tapes, all new since w0; P: the law's own blocks. -/
structure QH (O : TrioOps) (P : Nat → Prop) (w0 w : World) (t : Nat) (q : Nat → Nat) (N : Nat) (fu k : Option Nat) (S : Nat → TS) : Prop where
  ex : ∃ T, O.PQ w t q N fu S T ∧ (∀ g, T g → w0.heap.size ≤ g) ∧ ∀ x, P x → ¬ T x
  fz : FzO w fu k
  fnew : ∀ f, fu = some f → w0.heap.size ≤ f ∧ ¬ P f
  own : ∀ x, P x → x < w.heap.size
  up : Up Nul w0 w
section
variable {O : TrioOps} {P : Nat → Prop} {w0 w w' : World} {t : Nat} {q : Nat → Nat} {N : Nat} {fu k : Option Nat} {S : Nat → TS}
theorem QH.le (h : QH O P w0 w t q N fu k S) : ∀ i, i < 3 → (S i).live = true → (S i).B.length ≤ 65536 ∧ (S i).loose ≤ (S i).B.length ∧ ∀ v ∈ (S i).B, v < 256 := by
  obtain ⟨T, h1, _⟩ := h.ex
  exact O.le h1
theorem QH.nxt (h : QH O P w0 w t q N fu k S) (u : Up Nul w w') : QH O P w0 w' t q N fu k S := by
  obtain ⟨T, h1, h2, h3⟩ := h.ex
  exact ⟨⟨T, O.keep h1 u fun _ _ h => h, h2, h3⟩, h.fz.up u fun _ _ h => h, h.fnew, fun x hx => Nat.lt_of_lt_of_le (h.own x hx) u.size, h.up.trans u⟩
theorem QH.tp (h : QH O P w0 w t q N fu k S) (u : Up Nul w w') : Tp P w w' := ⟨u.size, fun x hx => u.block x (h.own x hx) fun h => h⟩
theorem QH.same {S' : Nat → TS} (h : QH O P w0 w t q N fu k S) (hs : ∀ i, i < 3 → Alk (S i) (S' i)) : QH O P w0 w t q N fu k S' := by
  obtain ⟨T, h1, h2, h3⟩ := h.ex
  exact ⟨⟨T, O.same h1 hs, h2, h3⟩, h.fz, h.fnew, h.own, h.up⟩
theorem QH.owns {Q : Nat → Prop} (h : QH O P w0 w t q N fu k S) (u : Up Nul w w') (h1 : ∀ x, Q x → P x ∨ (w.heap.size ≤ x ∧ x < w'.heap.size)) : QH O Q w0 w' t q N fu k S := by
  obtain ⟨T, k1, k2, k3⟩ := h.ex
  refine ⟨⟨T, O.keep k1 u fun _ _ h => h, k2, fun y hy e => ?_⟩, h.fz.up u fun _ _ h => h, fun f e => ⟨(h.fnew f e).1, fun hy => ?_⟩, fun y hy => ?_, h.up.trans u⟩
  · rcases h1 y hy with hy | ⟨hy, _⟩
    · exact k3 y hy e
    · have := O.lt k1 y e; omega
  · rcases h1 f hy with hy | ⟨hy, _⟩
    · exact (h.fnew f e).2 hy
    · have hz := h.fz
      rw [e] at hz
      have := Fz.lt hz
      omega
  · rcases h1 y hy with hy | ⟨_, hy⟩
    · exact Nat.lt_of_lt_of_le (h.own y hy) u.size
    · exact hy
theorem QH.less {Q : Nat → Prop} (h : QH O P w0 w t q N fu k S) (h1 : ∀ x, Q x → P x) : QH O Q w0 w t q N fu k S := h.owns (Up.refl _ _) fun x hx => .inl (h1 x hx)
/-- The law turns blocks of its own. -/
theorem QH.mine (h : QH O P w0 w t q N fu k S) {X : Nat → Prop} (u : Up X w w') (hs : ∀ x, X x → P x) (hn : ∀ x, X x → w0.heap.size ≤ x) : QH O P w0 w' t q N fu k S := by
  obtain ⟨T, k1, k2, k3⟩ := h.ex
  exact ⟨⟨T, O.keep k1 u fun g hg e => k3 g (hs g e) hg, k2, k3⟩, h.fz.up u fun f e hf => (h.fnew f e).2 (hs f hf), h.fnew, fun x hx => Nat.lt_of_lt_of_le (h.own x hx) u.size, h.up.past u hn⟩
/-- A row of the law's own has grown; it lies where it lay, or anew. -/
theorem QH.grow {Q : Nat → Prop} {row : Option Nat} (h : QH O P w0 w t q N fu k S) (g : w.grownBy w' row) (hr : ∀ x, row = some x → P x ∧ w0.heap.size ≤ x) (hQ : ∀ x, Q x → P x ∨ (w.heap.size ≤ x ∧ x < w'.heap.size)) : QH O Q w0 w' t q N fu k S := by
  obtain ⟨T, k1, k2, k3⟩ := h.ex
  have u : Up (fun x => row = some x) w w' := ⟨g.os, g.tape, g.output, g.size, fun k hk hs => g.block k hk fun e => hs e.symm⟩
  refine ⟨⟨T, O.keep k1 u fun g hg e => k3 g (hr g e).1 hg, k2, fun y hy e => ?_⟩, h.fz.up u fun f e hf => (h.fnew f e).2 (hr f hf).1, fun f e => ⟨(h.fnew f e).1, fun hy => ?_⟩, fun y hy => ?_, h.up.past u fun x hx => (hr x hx).2⟩
  · rcases hQ y hy with hy | ⟨hy, _⟩
    · exact k3 y hy e
    · have := O.lt k1 y e; omega
  · rcases hQ f hy with hy | ⟨hy, _⟩
    · exact (h.fnew f e).2 hy
    · have hz := h.fz
      rw [e] at hz
      have := Fz.lt hz
      omega
  · rcases hQ y hy with hy | ⟨_, hy⟩
    · exact Nat.lt_of_lt_of_le (h.own y hy) g.size
    · exact hy
/-- The Fuse alone turns. -/
theorem QH.fuse {f : Nat} {k' : Option Nat} (h : QH O P w0 w t q N (some f) k S) (u : Up (One f) w w') (hz : Fz w' f k') : QH O P w0 w' t q N (some f) k' S := by
  obtain ⟨T, k1, k2, k3⟩ := h.ex
  exact ⟨⟨T, O.keep k1 u fun g hg e => O.nf k1 h.fz f rfl (by rw [← show g = f from e]; exact hg), k2, k3⟩, hz, h.fnew, fun x hx => Nat.lt_of_lt_of_le (h.own x hx) u.size, h.up.past u fun g hg => by rw [show g = f from hg]; exact (h.fnew f rfl).1⟩
/-- The Trio has changed. -/
theorem QH.did {T : Nat → Prop} {k' : Option Nat} {S' : Nat → TS} {t' N' : Nat} (h : QH O P w0 w t q N fu k S) (h1 : O.PQ w t q N fu S T) (h2 : ∀ g, T g → w0.heap.size ≤ g) (h3 : ∀ x, P x → ¬ T x) (d : Qd O.PQ w w' t' q N' fu k' T S') : QH O P w0 w' t' q N' fu k' S' ∧ Tp P w w' := by
  obtain ⟨T', d1, d2⟩ := d.ex
  refine ⟨⟨⟨T', d1, fun g hg => ?_, fun x hx e => ?_⟩, d.fz, h.fnew, fun x hx => Nat.lt_of_lt_of_le (h.own x hx) d.up.size, h.up.past d.up fun g hg => ?_⟩, d.up.size, fun x hx => d.up.block x (h.own x hx) fun e => ?_⟩
  · rcases d2 g hg with e | e
    · exact h2 g e
    · exact Nat.le_trans h.up.size e
  · rcases d2 x e with e | e
    · exact h3 x hx e
    · have := h.own x hx; omega
  · rcases hg with e | e
    · exact h2 g e
    · exact (h.fnew g e).1
  · rcases e with e | e
    · exact h3 x hx e
    · exact (h.fnew x e).2 hx
/-! ### The calls, as a law meets them -/
theorem qh_new (O : TrioOps) (h0 : Up Nul w0 w) (hf : FzO w fu k) (hn : ∀ f, fu = some f → w0.heap.size ≤ f) :
    Calls Try.prog 10 #[.pointer (fp fu)] w fun e w' => ∃ t q, e = .returned (.pointer (some ⟨t, 0, none⟩)) ∧ QH O Nul w0 w' t q 0 fu k (fun _ => ⟨[], 0, true⟩) ∧ Up Nul w w' := by
  refine (O.new hf).mono ?_
  rintro e w' ⟨t, q, T, rfl, h1, h2, h3⟩
  exact ⟨t, q, rfl, ⟨⟨T, h1, fun g hg => Nat.le_trans h0.size (h3 g hg), fun _ h => h.elim⟩, hf.up h2 fun _ _ h => h, fun f e => ⟨hn f e, fun h => h⟩, fun _ h => h.elim, h0.trans h2⟩, h2⟩
theorem qh_tapes (h : QH O P w0 w t q N fu k S) : Calls Try.prog 12 #[.pointer (some ⟨t, 0, none⟩)] w fun e w' => e = .returned (tri q) ∧ QH O P w0 w' t q N fu k S ∧ Up Nul w w' := by
  obtain ⟨T, h1, _⟩ := h.ex
  refine (O.tapes h1).mono ?_
  rintro e w' ⟨rfl, u⟩
  exact ⟨rfl, h.nxt u, u⟩
theorem qh_append (h : QH O P w0 w t q N fu k S) (hN : N ≤ 1000000) {a : Option Addr} {l : Nat} (c : Nat) {z : List Nat} (hz : SlN w a l z) (hc : l ≤ c) (hl : l ≤ 100000) (ha : Off P w0 a l) :
    Calls Try.prog 14 #[.pointer (some ⟨t, 0, none⟩), .slice a l c] w fun e w' =>
      e = .returned (.int .i64 (tApp S k z).1) ∧ QH O P w0 w' t q (if (tApp S k z).1 = 0 then N + 1 else N) fu (tApp S k z).2.2 (tApp S k z).2.1 ∧ Tp P w w' := by
  obtain ⟨T, h1, h2, h3⟩ := h.ex
  refine (O.append h1 h.fz hN a l c z hz hc hl (ha.imp (fun e => e) fun ha x hx => ?_)).mono ?_
  · rcases ha x hx with e | e
    · exact ⟨h3 _ e, fun g => (h.fnew _ g).2 e⟩
    · exact ⟨fun g => by have := h2 _ g; omega, fun g => by have := (h.fnew _ g).1; omega⟩
  · rintro e w' ⟨rfl, d⟩
    exact ⟨rfl, h.did h1 h2 h3 d⟩
theorem qh_open (h : QH O P w0 w t q N fu k S) : Calls Try.prog 18 #[tri q] w fun e w' =>
      ((tOpn S k).1 = 0 ∧ ∃ t' v, e = .returned (.tuple #[.pointer (some ⟨t', 0, none⟩), v, .int .i64 0]) ∧ RRs w' v (tOpn S k).2.1 ∧ QH O P w0 w' t' q (tOpn S k).2.1.length fu (tOpn S k).2.2.2 (tOpn S k).2.2.1 ∧ Tp P w w') ∨
      (¬ (tOpn S k).1 = 0 ∧ ∃ a c, e = .returned (.tuple #[.pointer none, .slice a 0 c, .int .i64 (tOpn S k).1]) ∧ QH O P w0 w' t q N fu (tOpn S k).2.2.2 (tOpn S k).2.2.1 ∧ Tp P w w') := by
  obtain ⟨T, h1, h2, h3⟩ := h.ex
  refine (O.openT h1 h.fz).mono ?_
  rintro e w' (⟨e1, t', v, rfl, r, d⟩ | ⟨e1, a, c, rfl, d⟩)
  · exact .inl ⟨e1, t', v, rfl, r, h.did h1 h2 h3 d⟩
  · exact .inr ⟨e1, a, c, rfl, h.did h1 h2 h3 d⟩
theorem qh_appendE (h : QH O P w0 w t q N fu k S) (hN : N ≤ 1000000) {a : Option Addr} {l : Nat} (c : Nat) {z : List Nat} (hz : SlN w a l z) (hc : l ≤ c) (hl : l ≤ 100000) (ha : Off P w0 a l) {r : Int} {S' : Nat → TS} {k' : Option Nat} (ht : tApp S k z = (r, S', k')) :
    Calls Try.prog 14 #[.pointer (some ⟨t, 0, none⟩), .slice a l c] w fun e w' => e = .returned (.int .i64 r) ∧ QH O P w0 w' t q (if r = 0 then N + 1 else N) fu k' S' ∧ Tp P w w' := by
  have := qh_append h hN c hz hc hl ha
  rw [ht] at this
  exact this
theorem qh_openE (h : QH O P w0 w t q N fu k S) {l : List (List Nat)} {S' : Nat → TS} {k' : Option Nat} (ht : tOpn S k = (0, l, S', k')) : Calls Try.prog 18 #[tri q] w fun e w' =>
      ∃ t' v, e = .returned (.tuple #[.pointer (some ⟨t', 0, none⟩), v, .int .i64 0]) ∧ RRs w' v l ∧ QH O P w0 w' t' q l.length fu k' S' ∧ Tp P w w' := by
  refine (qh_open h).mono ?_
  rw [ht]
  rintro e w' (⟨_, h2⟩ | ⟨h1, _⟩)
  · exact h2
  · exact absurd rfl h1
theorem qh_openNo (h : QH O P w0 w t q N fu k S) {r : Int} {l : List (List Nat)} {S' : Nat → TS} {k' : Option Nat} (ht : tOpn S k = (r, l, S', k')) (hr : ¬ r = 0) : Calls Try.prog 18 #[tri q] w fun e w' =>
      ∃ a c, e = .returned (.tuple #[.pointer none, .slice a 0 c, .int .i64 r]) ∧ QH O P w0 w' t q N fu k' S' ∧ Tp P w w' := by
  refine (qh_open h).mono ?_
  rw [ht]
  rintro e w' (⟨h1, _⟩ | ⟨_, h2⟩)
  · exact absurd h1 hr
  · exact h2
theorem qh_mend (h : QH O P w0 w t q N fu k S) (x : Int) : Calls Try.prog 17 #[.pointer (some ⟨t, 0, none⟩), .int .i64 x] w fun e w' =>
      e = .returned (.int .i64 (tMnd S k x).1) ∧ QH O P w0 w' t q N fu (tMnd S k x).2.2 (tMnd S k x).2.1 ∧ Tp P w w' := by
  obtain ⟨T, h1, h2, h3⟩ := h.ex
  refine (O.mend h1 h.fz x).mono ?_
  rintro e w' ⟨rfl, d⟩
  exact ⟨rfl, h.did h1 h2 h3 d⟩
theorem qh_records (h : QH O P w0 w t q N fu k S) : Calls Try.prog 21 #[.pointer (some ⟨t, 0, none⟩)] w fun e w' => e = .returned (.int .i64 (N : Nat)) ∧ QH O P w0 w' t q N fu k S ∧ Up Nul w w' := by
  obtain ⟨T, h1, _⟩ := h.ex
  refine (O.records h1).mono ?_
  rintro e w' ⟨rfl, u⟩
  exact ⟨rfl, h.nxt u, u⟩
/-! ### One Tape's calls -/
theorem qh_fail (h : QH O P w0 w t q N fu k S) {i : Nat} (hi : i < 3) : Calls Try.prog 15 #[.pointer (some ⟨q i, 0, none⟩)] w fun e w' => e = .returned (.tuple #[]) ∧ QH O P w0 w' t q N fu k (updT S i ⟨(S i).B, (S i).loose, false⟩) ∧ Tp P w w' := by
  obtain ⟨T, h1, h2, h3⟩ := h.ex
  obtain ⟨F, s, _, g1, g2, g3⟩ := O.one h1 h.fz i hi
  refine (O.O.fail g1 h.fz).mono ?_
  rintro e w' ⟨rfl, s', hs, d⟩
  obtain ⟨x1, x2⟩ := h.did h1 h2 h3 (g3 w' k s' d)
  refine ⟨rfl, x1.same fun j hj => ?_, x2⟩
  by_cases e : j = i
  · subst e
    rw [updT_same, updT_same]
    exact ⟨hs.symm, fun e => by rw [hs] at e; cases e⟩
  · rw [updT_other _ _ e, updT_other _ _ e]
    exact Alk.refl _
theorem qh_replace (h : QH O P w0 w t q N fu k S) {i : Nat} (hi : i < 3) : Calls Try.prog 16 #[.pointer (some ⟨q i, 0, none⟩)] w fun e w' => e = .returned (.tuple #[]) ∧ QH O P w0 w' t q N fu k (updT S i ⟨[], 0, true⟩) ∧ Tp P w w' := by
  obtain ⟨T, h1, h2, h3⟩ := h.ex
  obtain ⟨F, s, _, g1, g2, g3⟩ := O.one h1 h.fz i hi
  refine (O.O.replace g1 h.fz).mono ?_
  rintro e w' ⟨rfl, d⟩
  exact ⟨rfl, h.did h1 h2 h3 (g3 w' k _ d)⟩
theorem qh_crash (h : QH O P w0 w t q N fu k S) {i : Nat} (hi : i < 3) (x : Int) : Calls Try.prog 31 #[.pointer (some ⟨q i, 0, none⟩), .int .i64 x] w fun e w' => e = .returned (.tuple #[]) ∧ QH O P w0 w' t q N fu k (updT S i ((S i).crash x)) ∧ Tp P w w' := by
  obtain ⟨T, h1, h2, h3⟩ := h.ex
  obtain ⟨F, s, _, g1, ⟨g2, g2'⟩, g3⟩ := O.one h1 h.fz i hi
  refine (O.O.crash g1 h.fz x).mono ?_
  rintro e w' ⟨rfl, s', hs1, hs2, d⟩
  obtain ⟨x1, x2⟩ := h.did h1 h2 h3 (g3 w' k s' d)
  refine ⟨rfl, x1.same fun j hj => ?_, x2⟩
  by_cases e : j = i
  · subst e
    rw [updT_same, updT_same]
    have hl : s'.live = (S j).live := hs1.trans g2
    refine ⟨hl.symm, fun e => ?_⟩
    rw [hl] at e
    rw [hs2 (by rw [g2, e]), g2' e]
  · rw [updT_other _ _ e, updT_other _ _ e]
    exact Alk.refl _
theorem qh_tput (h : QH O P w0 w t q N fu none S) {i : Nat} (hi : i < 3) {a : Option Addr} {l : Nat} (c : Nat) {z : List Nat} (hz : SlN w a l z) (hc : l ≤ c) (hl : (S i).B.length + l ≤ 65536) (ha : Off P w0 a l) (hv : (S i).live = true) :
    Calls Try.prog 37 #[.pointer (some ⟨q i, 0, none⟩), .slice a l c] w fun e w' => e = .returned (.int .i64 0) ∧ QH O P w0 w' t q N fu none (updT S i ⟨(S i).B ++ z, (S i).loose + l, true⟩) ∧ Tp P w w' := by
  obtain ⟨T, h1, h2, h3⟩ := h.ex
  obtain ⟨F, s, g0, g1, ⟨_, g2⟩, g3⟩ := O.one h1 h.fz i hi
  obtain rfl := g2 hv
  refine (O.O.append g1 h.fz a l c z hz hc (by omega) (ha.imp (fun e => e) fun ha x hx => ?_)).mono ?_
  · rcases ha x hx with e | e
    · exact ⟨fun g => h3 _ e (g0 _ g), fun g => (h.fnew _ g).2 e⟩
    · exact ⟨fun g => by have := h2 _ (g0 _ g); omega, fun g => by have := (h.fnew _ g).1; omega⟩
  · rintro e w' (⟨q1, _⟩ | ⟨_, q2, _⟩ | ⟨_, _, q3, _⟩ | ⟨_, _, _, rfl, d⟩)
    · rw [hv] at q1; cases q1
    · omega
    · cases q3
    · exact ⟨rfl, h.did h1 h2 h3 (g3 w' none _ d)⟩
theorem qh_tsync (h : QH O P w0 w t q N fu none S) {i : Nat} (hi : i < 3) (hv : (S i).live = true) :
    Calls Try.prog 38 #[.pointer (some ⟨q i, 0, none⟩)] w fun e w' => e = .returned (.int .i64 0) ∧ QH O P w0 w' t q N fu none (updT S i ⟨(S i).B, 0, true⟩) ∧ Tp P w w' := by
  obtain ⟨T, h1, h2, h3⟩ := h.ex
  obtain ⟨F, s, g0, g1, ⟨_, g2⟩, g3⟩ := O.one h1 h.fz i hi
  obtain rfl := g2 hv
  refine (O.O.sync g1 h.fz).mono ?_
  rintro e w' (⟨q1, _⟩ | ⟨_, q3, _⟩ | ⟨_, _, rfl, d⟩)
  · rw [hv] at q1; cases q1
  · cases q3
  · exact ⟨rfl, h.did h1 h2 h3 (g3 w' none _ d)⟩
theorem qh_live (h : QH O P w0 w t q N fu k S) {i : Nat} (hi : i < 3) : Calls Try.prog 35 #[.pointer (some ⟨q i, 0, none⟩)] w fun e w' => e = .returned (.bool (S i).live) ∧ QH O P w0 w' t q N fu k S ∧ Up Nul w w' := by
  obtain ⟨T, h1, h2, h3⟩ := h.ex
  obtain ⟨F, s, g0, g1, ⟨g2, _⟩, g3⟩ := O.one h1 h.fz i hi
  refine (O.O.live g1).mono ?_
  rintro e w' ⟨rfl, u⟩
  exact ⟨by rw [g2], h.nxt u, u⟩
theorem qh_bytes (h : QH O P w0 w t q N fu k S) {i : Nat} (hi : i < 3) (hv : (S i).live = true) : Calls Try.prog 36 #[.pointer (some ⟨q i, 0, none⟩)] w fun e w' => ∃ a l c, e = .returned (.tuple #[.slice a l c, .int .i64 0]) ∧ SlN w' a l (S i).B ∧ QH O P w0 w' t q N fu k S ∧ Up Nul w w' := by
  obtain ⟨T, h1, h2, h3⟩ := h.ex
  obtain ⟨F, s, g0, g1, ⟨_, g2⟩, g3⟩ := O.one h1 h.fz i hi
  obtain rfl := g2 hv
  refine (O.O.bytes g1).mono ?_
  rintro e w' ⟨⟨q1, _⟩ | ⟨_, a, l, c, rfl, hs⟩, u⟩
  · rw [hv] at q1; cases q1
  · exact ⟨a, l, c, rfl, hs, h.nxt u, u⟩
theorem qh_bytesGone (h : QH O P w0 w t q N fu k S) {i : Nat} (hi : i < 3) (hv : (S i).live = false) : Calls Try.prog 36 #[.pointer (some ⟨q i, 0, none⟩)] w fun e w' => ∃ a c, e = .returned (.tuple #[.slice a 0 c, .int .i64 5]) ∧ QH O P w0 w' t q N fu k S ∧ Up Nul w w' := by
  obtain ⟨T, h1, h2, h3⟩ := h.ex
  obtain ⟨F, s, g0, g1, ⟨g2, _⟩, g3⟩ := O.one h1 h.fz i hi
  refine (O.O.bytes g1).mono ?_
  rintro e w' ⟨⟨_, a, c, rfl⟩ | ⟨q1, _⟩, u⟩
  · exact ⟨a, c, rfl, h.nxt u, u⟩
  · rw [g2, hv] at q1; cases q1
end
end Go.Proofs.Ytencinajieicpaa
