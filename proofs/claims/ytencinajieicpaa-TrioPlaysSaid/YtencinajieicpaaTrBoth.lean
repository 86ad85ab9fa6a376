/- Both Trios, the program's and the document's, side by side: each call on both sides (TrioPlays). -/
import Derived.Test.YtencinajieicpaaTrAwake
import Derived.Test.YtencinajieicpaaTrRef3
import Derived.Test.YtencinajieicpaaTrRef4
namespace Go.Proofs.Ytencinajieicpaa
open Go.RowKit
set_option linter.unusedVariables false

/-- The law's blocks: the document's Trio, and others. -/
def Pq (m : Nat) (qm : Nat → Nat) (v : Nat) (Q : Nat → Prop) (x : Nat) : Prop := Rm m qm v x ∨ Q x
structure TQ (O : TrioOps) (NB : Nat) (Q : Nat → Prop) (w0 w : World) (t : Nat) (q : Nat → Nat) (f m : Nat) (qm : Nat → Nat) (v : Nat) : Prop where
  ex : ∃ k S N, QH O (Pq m qm v Q) w0 w t q N (some f) k S ∧ RTx w m qm v N k S ∧ N ≤ NB
  far : ∀ x, Rm m qm v x → w0.heap.size ≤ x
  qn : ∀ x, Q x → ¬ Rm m qm v x
section
variable {O : TrioOps} {NB : Nat} {Q : Nat → Prop} {w0 w w1 w2 : World} {t f m v N : Nat} {q qm : Nat → Nat} {k k' : Option Nat} {S S' : Nat → TS}
theorem Tp.trans {P : Nat → Prop} (h : Tp P w w1) (h2 : Tp P w1 w2) : Tp P w w2 := ⟨Nat.le_trans h.1 h2.1, fun x hx => (h2.2 x hx).trans (h.2 x hx)⟩
theorem Tp.less {P P' : Nat → Prop} (h : Tp P w w1) (hp : ∀ x, P' x → P x) : Tp P' w w1 := ⟨h.1, fun x hx => h.2 x (hp x hx)⟩
theorem Tp.id (P : Nat → Prop) (w : World) : Tp P w w := ⟨Nat.le_refl _, fun _ _ => rfl⟩
theorem Tp.nul {P : Nat → Prop} (u : Up Nul w w1) (hp : ∀ x, P x → x < w.heap.size) : Tp P w w1 := ⟨u.size, fun x hx => u.block x (hp x hx) fun h => h⟩
theorem DS.tp (h : DS w qm v k S) (u : Tp (Pq m qm v Q) w w1) : DS w1 qm v k S :=
  ⟨⟨fun i hi => ⟨(u.2 (qm i) (.inl (.inr (.inl ⟨i, hi, rfl⟩)))).trans (h.r.t i hi).heap, (h.r.t i hi).le, (h.r.t i hi).lo⟩, h.r.ne⟩, ⟨(u.2 v (.inl (.inr (.inr rfl)))).trans h.z.heap, h.z.le⟩⟩
theorem RTx.tp (h : RTx w m qm v N k S) (u : Tp (Pq m qm v Q) w w1) : RTx w1 m qm v N k S := ⟨(u.2 m (.inl (.inl rfl))).trans h.head, h.ds.tp u⟩
theorem TQ.up (h : TQ O NB Q w0 w t q f m qm v) : Up Nul w0 w := by
  obtain ⟨k, S, N, h1, _⟩ := h.ex
  exact h1.up
theorem TQ.own (h : TQ O NB Q w0 w t q f m qm v) : ∀ x, Q x → x < w.heap.size := by
  obtain ⟨k, S, N, h1, _⟩ := h.ex
  exact fun x hx => h1.own x (.inr hx)
theorem TQ.nxt (h : TQ O NB Q w0 w t q f m qm v) (u : Up Nul w w1) : TQ O NB Q w0 w1 t q f m qm v := by
  obtain ⟨k, S, N, h1, h2, h3⟩ := h.ex
  exact ⟨⟨k, S, N, h1.nxt u, h2.nxt u, h3⟩, h.far, h.qn⟩
theorem TQ.more {NB' : Nat} (h : TQ O NB Q w0 w t q f m qm v) (hn : NB ≤ NB') : TQ O NB' Q w0 w t q f m qm v := by
  obtain ⟨k, S, N, h1, h2, h3⟩ := h.ex
  exact ⟨⟨k, S, N, h1, h2, Nat.le_trans h3 hn⟩, h.far, h.qn⟩
theorem TQ.less {Q' : Nat → Prop} (h : TQ O NB Q w0 w t q f m qm v) (hq : ∀ x, Q' x → Q x) : TQ O NB Q' w0 w t q f m qm v := by
  obtain ⟨k, S, N, h1, h2, h3⟩ := h.ex
  exact ⟨⟨k, S, N, h1.less fun x hx => hx.imp (fun h => h) (hq x), h2, h3⟩, h.far, fun x hx => h.qn x (hq x hx)⟩
theorem RTx.lt (h : RTx w m qm v N k S) : ∀ x, Rm m qm v x → x < w.heap.size := fun x hx => by
  rcases hx with rfl | ⟨i, hi, rfl⟩ | rfl
  · exact rtc_lt h.head
  · exact (h.ds.r.t i hi).lt
  · exact h.ds.z.lt
/-- A new block of the law's own. -/
theorem TQ.lay {Q' : Nat → Prop} (h : TQ O NB Q w0 w t q f m qm v) (u : Up Nul w w1) (hq : ∀ x, Q' x → Q x ∨ (w.heap.size ≤ x ∧ x < w1.heap.size)) : TQ O NB Q' w0 w1 t q f m qm v := by
  obtain ⟨k, S, N, h1, h2, h3⟩ := h.ex
  refine ⟨⟨k, S, N, h1.owns u fun x hx => ?_, h2.nxt u, h3⟩, h.far, fun x hx e => ?_⟩
  · rcases hx with e | e
    · exact .inl (.inl e)
    · exact (hq x e).imp .inr fun e => e
  · rcases hq x hx with e2 | e2
    · exact h.qn x e2 e
    · have := h2.lt x e; omega
/-- The law turns blocks of its own. -/
theorem TQ.mine {X : Nat → Prop} (h : TQ O NB Q w0 w t q f m qm v) (u : Up X w w1) (hs : ∀ x, X x → Q x) (hn : ∀ x, X x → w0.heap.size ≤ x) : TQ O NB Q w0 w1 t q f m qm v := by
  obtain ⟨k, S, N, h1, h2, h3⟩ := h.ex
  have far : ∀ x, Rm m qm v x → ¬ X x := fun x hx e => h.qn x (hs x e) hx
  exact ⟨⟨k, S, N, h1.mine u (fun x hx => .inr (hs x hx)) hn, ⟨(u.block m (rtc_lt h2.head) (far m (.inl rfl))).trans h2.head, ⟨⟨fun i hi => (h2.ds.r.t i hi).up u (far _ (.inr (.inl ⟨i, hi, rfl⟩))), h2.ds.r.ne⟩, h2.ds.z.up u (far v (.inr (.inr rfl)))⟩⟩, h3⟩, h.far, h.qn⟩
/-- The program has stepped, and then the document. -/
theorem TQ.step {t' N' NB' : Nat} (h : TQ O NB Q w0 w t q f m qm v) (tp : Tp (Pq m qm v Q) w w1) (d : QH O (Pq m qm v Q) w0 w1 t' q N' (some f) k' S') (u : Up (Rm m qm v) w1 w2) (r : RTx w2 m qm v N' k' S') (hn : N' ≤ NB') :
    TQ O NB' Q w0 w2 t' q f m qm v ∧ Tp Q w w2 :=
  ⟨⟨⟨k', S', N', d.mine u (fun x hx => .inl hx) h.far, r, hn⟩, h.far, h.qn⟩, Nat.le_trans tp.1 u.size, fun x hx => (u.block x (Nat.lt_of_lt_of_le (h.own x hx) tp.1) (h.qn x hx)).trans (tp.2 x (.inr hx))⟩
theorem off_pq {a : Option Addr} {l : Nat} (h : Off Q w0 a l) : Off (Pq m qm v Q) w0 a l := h.imp (fun e => e) fun h x hx => (h x hx).imp .inr fun e => e
theorem tq_append (h : TQ O NB Q w0 w t q f m qm v) (hNB : NB ≤ 900000) {a : Option Addr} {l : Nat} (c : Nat) {z : List Nat} (hz : SlN w a l z) (hc : l ≤ c) (hl : l ≤ 300) (ha : Off Q w0 a l) :
    ∃ r : Int, Calls Try.prog 14 #[.pointer (some ⟨t, 0, none⟩), .slice a l c] w fun e w1 => e = .returned (.int .i64 r) ∧ Tp Q w w1 ∧ Up Nul w0 w1 ∧
      Calls Try.prog 28 #[.pointer (some ⟨m, 0, none⟩), .string (strOf z)] w1 fun e w2 => e = .returned (.int .i64 r) ∧ TQ O (NB + 1) Q w0 w2 t q f m qm v ∧ Tp Q w w2 := by
  obtain ⟨k, S, N, h1, h2, h3⟩ := h.ex
  refine ⟨(tApp S k z).1, (qh_append h1 (by omega) c hz hc (by omega) (off_pq ha)).mono ?_⟩
  rintro e w1 ⟨rfl, d, tp⟩
  refine ⟨rfl, tp.less fun x hx => .inr hx, d.up, (rapp_any (h2.tp tp) (by omega) z (by rw [hz.len]; omega)).mono ?_⟩
  rintro e w2 ⟨rfl, r, u⟩
  exact ⟨rfl, h.step tp d u r (by split <;> omega)⟩
theorem tq_mend (h : TQ O NB Q w0 w t q f m qm v) (x : Int) :
    ∃ r : Int, Calls Try.prog 17 #[.pointer (some ⟨t, 0, none⟩), .int .i64 x] w fun e w1 => e = .returned (.int .i64 r) ∧ Tp Q w w1 ∧ Up Nul w0 w1 ∧
      Calls Try.prog 30 #[.pointer (some ⟨m, 0, none⟩), .int .i64 x] w1 fun e w2 => e = .returned (.int .i64 r) ∧ TQ O NB Q w0 w2 t q f m qm v ∧ Tp Q w w2 := by
  obtain ⟨k, S, N, h1, h2, h3⟩ := h.ex
  refine ⟨(tMnd S k x).1, (qh_mend h1 x).mono ?_⟩
  rintro e w1 ⟨rfl, d, tp⟩
  refine ⟨rfl, tp.less fun x hx => .inr hx, d.up, (rmend_any (h2.tp tp) x).mono ?_⟩
  rintro e w2 ⟨rfl, r, u⟩
  exact ⟨rfl, h.step tp d (u.mono fun g _ e => .inr e) r h3⟩
theorem tq_tapes (h : TQ O NB Q w0 w t q f m qm v) : Calls Try.prog 12 #[.pointer (some ⟨t, 0, none⟩)] w fun e w1 => e = .returned (tri q) ∧ TQ O NB Q w0 w1 t q f m qm v ∧ Up Nul w w1 := by
  obtain ⟨k, S, N, h1, h2, h3⟩ := h.ex
  refine (qh_tapes h1).mono ?_
  rintro e w1 ⟨rfl, _, u⟩
  exact ⟨rfl, h.nxt u, u⟩
theorem tq_records (h : TQ O NB Q w0 w t q f m qm v) : ∃ N, (∀ W, Up Nul w W → W.cell? ⟨m, 3, none⟩ = some (.int .i64 (N : Nat))) ∧ ∀ W, Up Nul w W → Calls Try.prog 21 #[.pointer (some ⟨t, 0, none⟩)] W fun e w1 => e = .returned (.int .i64 (N : Nat)) ∧ Up Nul W w1 := by
  obtain ⟨k, S, N, h1, h2, h3⟩ := h.ex
  exact ⟨N, fun W u => (rtc_cells (h2.nxt u).head).2.1, fun W u => (qh_records (h1.nxt u)).mono fun e w1 h => ⟨h.1, h.2.2⟩⟩
theorem tq_heads (h : TQ O NB Q w0 w t q f m qm v) : ∀ W, Tp (Pq m qm v Q) w W → (∀ i, i < 3 → W.cell? ⟨m, i, none⟩ = some (.pointer (some ⟨qm i, 0, none⟩))) ∧ ∀ i, W.frozen? ⟨m, i, none⟩ = false := fun W u => by
  obtain ⟨k, S, N, h1, h2, h3⟩ := h.ex
  have := rtc_cells (h2.tp u).head
  exact ⟨this.1, this.2.2⟩
/-- The document's Tape i is gone. -/
theorem tq_fail (h : TQ O NB Q w0 w t q f m qm v) {i : Nat} (hi : i < 3) : Calls Try.prog 15 #[.pointer (some ⟨q i, 0, none⟩)] w fun e w1 => e = .returned (.tuple #[]) ∧ Tp (Pq m qm v Q) w w1 ∧
      (∃ l, w1.cell? ⟨qm i, 2, none⟩ = some (.bool l)) ∧ w1.frozen? ⟨qm i, 2, none⟩ = false ∧ TQ O NB Q w0 (w1.setCell ⟨qm i, 2, none⟩ (.bool false)) t q f m qm v ∧ Tp Q w (w1.setCell ⟨qm i, 2, none⟩ (.bool false)) := by
  obtain ⟨k, S, N, h1, h2, h3⟩ := h.ex
  refine (qh_fail h1 hi).mono ?_
  rintro e w1 ⟨rfl, d, tp⟩
  have r := h2.tp tp
  have ri := r.ds.r.t i hi
  have u : Up (fun g => g = qm i ∨ g = v) w1 (w1.setCell ⟨qm i, 2, none⟩ (.bool false)) := (Up.refl _ _).setCell (.inr (.inl rfl)) _
  have ui : Up (One (qm i)) w1 (w1.setCell ⟨qm i, 2, none⟩ (.bool false)) := (Up.refl (One (qm i)) w1).setCell (.inr (show One (qm i) (qm i) from rfl)) _
  have r2 : RTp (w1.setCell ⟨qm i, 2, none⟩ (.bool false)) (qm i) v ⟨(S i).B, (S i).loose, false⟩ := ⟨heap_setCell_same w1 (qm i) 2 _ _ _ ri.heap, ri.le, ri.lo⟩
  obtain ⟨d2, u2⟩ := r.ds.one hi r2 (r.ds.z.up ui fun e => ri.ne r.ds.z (Eq.symm e)) u
  exact ⟨rfl, tp, ⟨_, ri.c2⟩, ri.fr 2, h.step tp d (u2.mono fun g _ e => .inr e) ⟨rtc_up r.head r.ds u2, d2⟩ h3⟩
theorem tq_replace (h : TQ O NB Q w0 w t q f m qm v) {i : Nat} (hi : i < 3) : Calls Try.prog 16 #[.pointer (some ⟨q i, 0, none⟩)] w fun e w1 => e = .returned (.tuple #[]) ∧ Tp (Pq m qm v Q) w w1 ∧
      ∀ W, Up Nul w1 W → Calls Try.prog 29 #[.pointer (some ⟨qm i, 0, none⟩)] W fun e w2 => e = .returned (.tuple #[]) ∧ TQ O NB Q w0 w2 t q f m qm v ∧ Tp Q w w2 := by
  obtain ⟨k, S, N, h1, h2, h3⟩ := h.ex
  refine (qh_replace h1 hi).mono ?_
  rintro e w1 ⟨rfl, d, tp⟩
  refine ⟨rfl, tp, fun W uw => ?_⟩
  have r := (h2.tp tp).nxt uw
  have tpw : Tp (Pq m qm v Q) w W := tp.trans ⟨uw.size, fun x hx => uw.block x (by
    have := h1.own x hx
    exact Nat.lt_of_lt_of_le this tp.1) fun h => h⟩
  refine (rt_replace (r.ds.r.t i hi)).mono ?_
  rintro e w2 ⟨rfl, r2, u⟩
  obtain ⟨d2, u2⟩ := r.ds.one hi r2 (r.ds.z.up u fun e => (r.ds.r.t i hi).ne r.ds.z (Eq.symm e)) (u.mono fun g _ e => .inl e)
  exact ⟨rfl, h.step tpw (d.nxt uw) (u2.mono fun g _ e => .inr e) ⟨rtc_up r.head r.ds u2, d2⟩ h3⟩
theorem tq_crash (h : TQ O NB Q w0 w t q f m qm v) {i : Nat} (hi : i < 3) (x : Int) : Calls Try.prog 31 #[.pointer (some ⟨q i, 0, none⟩), .int .i64 x] w fun e w1 => e = .returned (.tuple #[]) ∧ Tp (Pq m qm v Q) w w1 ∧
      ∀ W, Up Nul w1 W → Calls Try.prog 32 #[.pointer (some ⟨qm i, 0, none⟩), .int .i64 x] W fun e w2 => e = .returned (.tuple #[]) ∧ TQ O NB Q w0 w2 t q f m qm v ∧ Tp Q w w2 := by
  obtain ⟨k, S, N, h1, h2, h3⟩ := h.ex
  refine (qh_crash h1 hi x).mono ?_
  rintro e w1 ⟨rfl, d, tp⟩
  refine ⟨rfl, tp, fun W uw => ?_⟩
  have r := (h2.tp tp).nxt uw
  have tpw : Tp (Pq m qm v Q) w W := tp.trans ⟨uw.size, fun x hx => uw.block x (by
    have := h1.own x hx
    exact Nat.lt_of_lt_of_le this tp.1) fun h => h⟩
  refine (rt_crash (r.ds.r.t i hi) x).mono ?_
  rintro e w2 ⟨rfl, r2, u⟩
  obtain ⟨d2, u2⟩ := r.ds.one hi r2 (r.ds.z.up u fun e => (r.ds.r.t i hi).ne r.ds.z (Eq.symm e)) (u.mono fun g _ e => .inl e)
  exact ⟨rfl, h.step tpw (d.nxt uw) (u2.mono fun g _ e => .inr e) ⟨rtc_up r.head r.ds u2, d2⟩ h3⟩
/-! ### 'Open' on both sides -/
theorem cell_rm (h : RTx w m qm v N k S) {b o : Nat} {x : Value} (hb : Rm m qm v b) (hc : w.cell? ⟨b, o, none⟩ = some x) : (∃ p, x = .pointer p) ∨ (∃ n, x = .int .i64 n) ∨ (∃ s, x = .string s) ∨ ∃ y, x = .bool y := by
  rcases hb with rfl | ⟨i, hi, rfl⟩ | rfl
  · have hh := h.head
    unfold rtc at hh
    simp only [World.cell?, hh] at hc
    have hl : o < 4 := by
      rcases Nat.lt_or_ge o 4 with h | h
      · exact h
      · have hc : (#[Value.pointer (some ⟨qm 0, 0, none⟩), .pointer (some ⟨qm 1, 0, none⟩), .pointer (some ⟨qm 2, 0, none⟩), .int .i64 (N : Nat)] : Array Value)[o]? = some x := hc
        rw [Array.getElem?_eq_none (by simpa using h)] at hc; cases hc
    obtain rfl | rfl | rfl | rfl : o = 0 ∨ o = 1 ∨ o = 2 ∨ o = 3 := by omega
    · exact .inl ⟨_, by simpa using hc.symm⟩
    · exact .inl ⟨_, by simpa using hc.symm⟩
    · exact .inl ⟨_, by simpa using hc.symm⟩
    · exact .inr (.inl ⟨_, by simpa using hc.symm⟩)
  · have hh := (h.ds.r.t i hi).heap
    simp only [World.cell?, hh] at hc
    have hl : o < 4 := by
      rcases Nat.lt_or_ge o 4 with h | h
      · exact h
      · have hc : (#[Value.string (strOf (S i).B), .int .i64 ((S i).loose : Nat), .bool (S i).live, .pointer (some ⟨v, 0, none⟩)] : Array Value)[o]? = some x := hc
        rw [Array.getElem?_eq_none (by simpa using h)] at hc; cases hc
    obtain rfl | rfl | rfl | rfl : o = 0 ∨ o = 1 ∨ o = 2 ∨ o = 3 := by omega
    · exact .inr (.inr (.inl ⟨_, by simpa using hc.symm⟩))
    · exact .inr (.inl ⟨_, by simpa using hc.symm⟩)
    · exact .inr (.inr (.inr ⟨_, by simpa using hc.symm⟩))
    · exact .inl ⟨_, by simpa using hc.symm⟩
  · by_cases h0 : o = 0
    · subst h0
      have := h.ds.z.c0
      rw [this] at hc
      exact .inr (.inr (.inr ⟨_, by simpa using hc.symm⟩))
    · by_cases h1 : o = 1
      · subst h1
        have := h.ds.z.c1
        rw [this] at hc
        exact .inr (.inl ⟨_, by simpa using hc.symm⟩)
      · exfalso
        have hh := h.ds.z.heap
        simp only [World.cell?, hh] at hc
        rw [Array.getElem?_eq_none (by simp; omega)] at hc
        cases hc
theorem RRs.far {x : Value} {L : List (List Nat)} (h : RRs w x L) (r : RTx w m qm v N k S) (u : Up (Rm m qm v) w w2) : RRs w2 x L := by
  obtain ⟨a, c, e, h⟩ := h
  refine ⟨a, c, e, h.imp id ?_⟩
  rintro ⟨g, o, e1, hg, hc⟩
  refine ⟨g, o, e1, Nat.lt_of_lt_of_le hg u.size, fun i z hi => ?_⟩
  obtain ⟨ea, ec, h1, h2⟩ := hc i z hi
  refine ⟨ea, ec, (u.cell (p := ⟨g, o + i, none⟩) hg fun e => ?_).trans h1, h2.off u ?_⟩
  · rcases cell_rm r e h1 with ⟨_, e⟩ | ⟨_, e⟩ | ⟨_, e⟩ | ⟨_, e⟩ <;> cases e
  · rcases h2.row with e0 | ⟨b, o2, e2, hb, rr⟩
    · exact .inl e0
    · by_cases h0 : z.length = 0
      · exact .inl h0
      · refine .inr fun y ey hy => ?_
        rw [e2] at ey
        cases ey
        have := rr.cells 0 (by omega)
        rcases cell_rm r hy this with ⟨_, e⟩ | ⟨_, e⟩ | ⟨_, e⟩ | ⟨_, e⟩ <;> cases e
theorem QH.byl (h : QH O (Pq m qm v Q) w0 w t q N (some f) k S) : Byl S := fun i hi hv j => by
  have h1 := (h.le i hi hv).2.2
  rw [List.getD_eq_getElem?_getD]
  cases hx : (S i).B[j]? with
  | none => simp
  | some x => exact h1 x (List.mem_of_getElem? hx)
theorem tq_open (h : TQ O NB Q w0 w t q f m qm v) : Calls Try.prog 18 #[tri q] w fun e w1 =>
    (∃ t' x L, e = .returned (.tuple #[.pointer (some ⟨t', 0, none⟩), x, .int .i64 0]) ∧ RRs w1 x L ∧ L.length ≤ 65536 ∧ Byt L ∧ Tp (Pq m qm v Q) w w1 ∧
      ∀ W, Up Nul w1 W → Calls Try.prog 33 #[.agg #[.pointer (some ⟨qm 0, 0, none⟩), .pointer (some ⟨qm 1, 0, none⟩), .pointer (some ⟨qm 2, 0, none⟩)]] W fun e w2 => ∃ m' y, e = .returned (.tuple #[.pointer (some ⟨m', 0, none⟩), y, .int .i64 0]) ∧ RRs w2 x L ∧ RowS w2 y L ∧ TQ O 65536 Q w0 w2 t' q f m' qm v ∧ Tp Q w w2) ∨
    (∃ (a : Option Addr) (c : Nat) (r : Int), ¬ r = 0 ∧ e = .returned (.tuple #[.pointer none, .slice a 0 c, .int .i64 r]) ∧ Tp (Pq m qm v Q) w w1 ∧
      ∀ W, Up Nul w1 W → Calls Try.prog 33 #[.agg #[.pointer (some ⟨qm 0, 0, none⟩), .pointer (some ⟨qm 1, 0, none⟩), .pointer (some ⟨qm 2, 0, none⟩)]] W fun e w2 => e = .returned (.tuple #[.pointer none, .slice none 0 0, .int .i64 r]) ∧ TQ O NB Q w0 w2 t q f m qm v ∧ Tp Q w w2) := by
  obtain ⟨k, S, N, h1, h2, h3⟩ := h.ex
  have hb := h1.byl
  have keyT : ∀ w1 W, Tp (Pq m qm v Q) w w1 → Up Nul w1 W → Tp (Pq m qm v Q) w W := fun w1 W tp uw => tp.trans ⟨uw.size, fun x hx => uw.block x (Nat.lt_of_lt_of_le (h1.own x hx) tp.1) fun h => h⟩
  have hbl : (tOpn S k).2.1.length ≤ 65536 ∧ Byt (tOpn S k).2.1 := by
    have h4 := flt_many (bst S)
    have h5 := (bst_fit h2.ds).2
    have h6 : (tOpn S k).2.1 = [] ∨ (tOpn S k).2.1 = bst S := by
      unfold tOpn
      split
      · exact .inl rfl
      · generalize goN (fxA (bst S)) S k 3 = x
        obtain ⟨b, S1, k1⟩ := x
        cases b
        · exact .inl rfl
        · exact .inr rfl
    rcases h6 with e | e
    · rw [e]; exact ⟨Nat.zero_le _, fun y hy => by cases hy⟩
    · rw [e]; exact ⟨by omega, bst_byt hb⟩
  refine (qh_open h1).mono ?_
  rintro e w1 (⟨e0, t', x, rfl, hr, d, tp⟩ | ⟨e0, a, c, rfl, d, tp⟩)
  · refine .inl ⟨t', x, _, rfl, hr, hbl.1, hbl.2, tp, fun W uw => ?_⟩
    have r := (h2.tp tp).nxt uw
    refine (ropen_any r.ds hb).mono ?_
    rintro e w2 (⟨_, m', y, rfl, hy, r2, hm', u2⟩ | ⟨e1, _⟩)
    · have tpw := keyT w1 W tp uw
      have hwz : w0.heap.size ≤ W.heap.size := (d.up.trans uw).size
      refine ⟨m', y, rfl, (hr.nxt uw).far r (u2.mono fun g _ e => .inr e), hy, ⟨⟨_, _, _, ?_, r2, hbl.1⟩, ?_, ?_⟩, ?_⟩
      · have dw := d.nxt uw
        obtain ⟨T, p1, p2, p3⟩ := dw.ex
        have hfw : f < W.heap.size := Fz.lt dw.fz
        have hfn := dw.fnew f rfl
        refine ⟨⟨T, O.keep p1 u2 fun g hg e => p3 g (.inl (.inr e)) hg, p2, fun x hx e => ?_⟩, dw.fz.up u2 fun g eg e => by cases eg; exact hfn.2 (.inl (.inr e)), fun g eg => ?_, fun x hx => ?_, dw.up.past u2 fun g hg => h.far g (.inr hg)⟩
        · rcases hx with (e2 | e2) | e2
          · have := O.lt p1 x e
            omega
          · exact p3 x (.inl (.inr e2)) e
          · exact p3 x (.inr e2) e
        · cases eg
          refine ⟨hfn.1, ?_⟩
          rintro ((e2 | e2) | e2)
          · omega
          · exact hfn.2 (.inl (.inr e2))
          · exact hfn.2 (.inr e2)
        · rcases hx with (e2 | e2) | e2
          · rw [e2]; exact rtc_lt r2.head
          · exact Nat.lt_of_lt_of_le (dw.own x (.inl (.inr e2))) u2.size
          · exact Nat.lt_of_lt_of_le (dw.own x (.inr e2)) u2.size
      · rintro x (e | e)
        · rw [e]; omega
        · exact h.far x (.inr e)
      · rintro x hx (e | e)
        · have := h.own x hx
          have := tpw.1
          omega
        · exact h.qn x hx (.inr e)
      · exact ⟨Nat.le_trans tpw.1 u2.size, fun x hx => (u2.block x (Nat.lt_of_lt_of_le (h.own x hx) tpw.1) fun e => h.qn x hx (.inr e)).trans (tpw.2 x (.inr hx))⟩
    · exact absurd e0 e1
  · refine .inr ⟨a, c, _, e0, rfl, tp, fun W uw => ?_⟩
    have r := (h2.tp tp).nxt uw
    refine (ropen_any r.ds hb).mono ?_
    rintro e w2 (⟨e1, _⟩ | ⟨_, rfl, d2, u2⟩)
    · exact absurd e1 e0
    · exact ⟨rfl, h.step (keyT w1 W tp uw) (d.nxt uw) (u2.mono fun g _ e => .inr e) ⟨rtc_up r.head r.ds u2, d2⟩ h3⟩
/-! ### The Fuse is set -/
theorem tq_set (h : TQ O NB Q w0 w t q f m qm v) (x : Int) (hx : x ≤ 9223372036854775807) : Calls Try.prog 34 #[.pointer (some ⟨f, 0, none⟩), .int .i64 x] w fun e w1 => e = .returned (.tuple #[]) ∧ Tp Q w w1 ∧
    Calls Try.prog 26 #[.int .i64 x] w1 fun e w2 => ∃ p b0 z1, e = .returned (.pointer (some ⟨p, 0, none⟩)) ∧ w2.cell? ⟨p, 0, none⟩ = some (.bool b0) ∧ w2.cell? ⟨p, 1, none⟩ = some (.int .i64 z1) ∧
      (∃ y, w2.cell? ⟨v, 0, none⟩ = some y) ∧ (∃ y, w2.cell? ⟨v, 1, none⟩ = some y) ∧ (∀ j, w2.frozen? ⟨v, j, none⟩ = false) ∧ Tp Q w w2 ∧
      TQ O NB Q w0 ((w2.setCell ⟨v, 0, none⟩ (.bool b0)).setCell ⟨v, 1, none⟩ (.int .i64 z1)) t q f m qm v ∧ Tp Q w ((w2.setCell ⟨v, 0, none⟩ (.bool b0)).setCell ⟨v, 1, none⟩ (.int .i64 z1)) := by
  obtain ⟨k, S, N, h1, h2, h3⟩ := h.ex
  have hz : Fz w f k := h1.fz
  have hfn := h1.fnew f rfl
  refine (set_any f k x w hz hx).mono ?_
  rintro e w1 ⟨rfl, g1, g2, _⟩
  have d := h1.fuse g2 g1
  have tp : Tp (Pq m qm v Q) w w1 := ⟨g2.size, fun y hy => g2.block y (h1.own y hy) fun e => hfn.2 (by rw [show y = f from e] at hy; exact hy)⟩
  refine ⟨rfl, tp.less fun x hx => .inr hx, (rnewFuse_any x w1 hx).mono ?_⟩
  rintro e w2 ⟨p, rfl, d1, d2, _⟩
  have r2 := (h2.tp tp).nxt d2
  have z2 := r2.ds.z
  have tp2 : Tp (Pq m qm v Q) w w2 := tp.trans (d.tp d2)
  have u : Up (One v) w2 ((w2.setCell ⟨v, 0, none⟩ (.bool (ofk x).isNone)).setCell ⟨v, 1, none⟩ (.int .i64 (((ofk x).getD 0 : Nat) : Int))) := ((Up.refl (One v) w2).put rfl 0 _).put rfl 1 _
  have z3 : RFz ((w2.setCell ⟨v, 0, none⟩ (.bool (ofk x).isNone)).setCell ⟨v, 1, none⟩ (.int .i64 (((ofk x).getD 0 : Nat) : Int))) v (ofk x) := by
    refine ⟨?_, d1.le⟩
    rw [heap_setCell_same _ v 1 _ _ _ (heap_setCell_same w2 v 0 _ _ _ z2.heap)]
    simp
  have ur : Up (Rx qm v) w2 ((w2.setCell ⟨v, 0, none⟩ (.bool (ofk x).isNone)).setCell ⟨v, 1, none⟩ (.int .i64 (((ofk x).getD 0 : Nat) : Int))) := u.mono fun g _ e => .inr e
  obtain ⟨k1, k2⟩ := h.step tp2 (d.nxt d2) (ur.mono fun g _ e => .inr e) ⟨rtc_up r2.head r2.ds ur, ⟨⟨fun i hi => (r2.ds.r.t i hi).up u fun e => (r2.ds.r.t i hi).ne z2 e, r2.ds.r.ne⟩, z3⟩⟩ h3
  exact ⟨p, _, _, rfl, d1.c0, d1.c1, ⟨_, z2.c0⟩, ⟨_, z2.c1⟩, fun j => z2.fr j, tp2.less fun x hx => .inr hx, k1, k2⟩
/-! ### A look at both -/
/-- What a look finds of Tape i: w1 the world then. -/
structure LkQ (w1 : World) (qi mi : Nat) (live : Bool) (z : List Nat) : Prop where
  lives : ∀ W, Up Nul w1 W → Calls Try.prog 35 #[.pointer (some ⟨qi, 0, none⟩)] W fun e W' => e = .returned (.bool live) ∧ Up Nul W W'
  bytes : ∀ W, Up Nul w1 W → Calls Try.prog 36 #[.pointer (some ⟨qi, 0, none⟩)] W fun e W' => ∃ (a : Option Addr) (l c : Nat) (r : Int), e = .returned (.tuple #[.slice a l c, .int .i64 r]) ∧ r = (if live then 0 else 5) ∧ Up Nul W W' ∧ (live = true → ∀ X, Up Nul W' X → (convert 30 9 (.slice a l c)).run Try.prog X = .ok (.string (strOf z)) X)
  c0 : ∀ W, Up Nul w1 W → live = true → W.cell? ⟨mi, 0, none⟩ = some (.string (strOf z))
  c2 : ∀ W, Up Nul w1 W → W.cell? ⟨mi, 2, none⟩ = some (.bool live)
theorem tq_look (h : TQ O NB Q w0 w t q f m qm v) {i : Nat} (hi : i < 3) : ∃ (live : Bool) (z : List Nat), LkQ w (q i) (qm i) live z := by
  obtain ⟨k, S, N, h1, h2, h3⟩ := h.ex
  refine ⟨(S i).live, (S i).B, ⟨fun W u => (qh_live (h1.nxt u) hi).mono fun e W' h => ⟨h.1, h.2.2⟩, fun W u => ?_, fun W u _ => ((h2.nxt u).ds.byt hi), fun W u => ((h2.nxt u).ds.live hi)⟩⟩
  cases hv : (S i).live with
  | true =>
    refine (qh_bytes (h1.nxt u) hi hv).mono ?_
    rintro e W' ⟨a, l, c, rfl, hs, _, u2⟩
    exact ⟨a, l, c, 0, rfl, rfl, u2, fun _ X ux => (hs.nxt ux).conv c⟩
  | false =>
    refine (qh_bytesGone (h1.nxt u) hi hv).mono ?_
    rintro e W' ⟨a, c, rfl, _, u2⟩
    exact ⟨a, 0, c, 5, rfl, rfl, u2, fun e => by cases e⟩
end
end Go.Proofs.Ytencinajieicpaa
