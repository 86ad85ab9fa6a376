/- Three Tapes in memory; one Tape's calls as they meet the three; what is done to the live ones, one after the other. -/
import Derived.Test.YtencinajieicpaaTrReal
namespace Go.Proofs.Ytencinajieicpaa
open Go.RowKit
set_option linter.unusedVariables false

/-! ### One live Tape after the other -/
abbrev ActT := TS → Option Nat → Bool × TS × Option Nat
def stepL (act : ActT) (r : Bool × (Nat → TS) × Option Nat) (i : Nat) : Bool × (Nat → TS) × Option Nat :=
  match r with
  | (true, S1, k1) => match act (S1 i) k1 with
    | (b, s, k2) => (b, updT S1 i s, k2)
  | (false, S1, k1) => (false, S1, k1)
def goL (act : ActT) (S : Nat → TS) (k : Option Nat) (L : List Nat) : Bool × (Nat → TS) × Option Nat := L.foldl (stepL act) (true, S, k)
theorem goL_nil (act : ActT) (S : Nat → TS) (k : Option Nat) : goL act S k [] = (true, S, k) := rfl
theorem goL_snoc (act : ActT) (S : Nat → TS) (k : Option Nat) (L : List Nat) (i : Nat) : goL act S k (L ++ [i]) = stepL act (goL act S k L) i := by
  unfold goL
  rw [List.foldl_append]
  rfl
theorem stepL_no {act : ActT} {S1 : Nat → TS} {k1 : Option Nat} (L : List Nat) : L.foldl (stepL act) (false, S1, k1) = (false, S1, k1) := by
  induction L with
  | nil => rfl
  | cons i L ih => exact ih
theorem goL_stop {act : ActT} {S S1 : Nat → TS} {k k1 : Option Nat} {L : List Nat} (h : goL act S k L = (false, S1, k1)) (M : List Nat) : goL act S k (L ++ M) = (false, S1, k1) := by
  unfold goL at h ⊢
  rw [List.foldl_append, h]
  exact stepL_no M
theorem updT_id (S : Nat → TS) (i : Nat) : updT S i (S i) = S := by
  funext j
  by_cases e : j = i
  · subst e; exact updT_same S j _
  · exact updT_other S _ e
theorem goL_rest {act : ActT} {S : Nat → TS} {k : Option Nat} : ∀ (L : List Nat) (i : Nat), ¬ i ∈ L → (goL act S k L).2.1 i = S i := by
  intro L
  suffices H : ∀ (L : List Nat) (r : Bool × (Nat → TS) × Option Nat) (i : Nat), ¬ i ∈ L → (L.foldl (stepL act) r).2.1 i = r.2.1 i from fun i hi => H L _ i hi
  intro L
  induction L with
  | nil => intro r i _; rfl
  | cons x L ih =>
    intro r i hi
    rw [List.foldl_cons, ih _ i fun h => hi (List.mem_cons_of_mem _ h)]
    obtain ⟨b, S1, k1⟩ := r
    cases b with
    | false => rfl
    | true =>
      cases ha : act (S1 x) k1 with
      | mk b q =>
        obtain ⟨s, k2⟩ := q
        show (match act (S1 x) k1 with | (b, s, k2) => (b, updT S1 x s, k2)).2.1 i = S1 i
        rw [ha]
        exact updT_other _ _ fun e => hi (by rw [e]; exact List.mem_cons_self ..)
theorem goL_live {act : ActT} (hact : ∀ s k, (act s k).2.1.live = s.live) {S : Nat → TS} {k : Option Nat} (L : List Nat) (i : Nat) : ((goL act S k L).2.1 i).live = (S i).live := by
  suffices H : ∀ (L : List Nat) (r : Bool × (Nat → TS) × Option Nat), ((L.foldl (stepL act) r).2.1 i).live = (r.2.1 i).live from H L _
  intro L
  induction L with
  | nil => intro r; rfl
  | cons x L ih =>
    intro r
    rw [List.foldl_cons, ih]
    obtain ⟨b, S1, k1⟩ := r
    cases b with
    | false => rfl
    | true =>
      have hx := hact (S1 x) k1
      cases ha : act (S1 x) k1 with
      | mk b q =>
        obtain ⟨s, k2⟩ := q
        rw [ha] at hx
        show ((match act (S1 x) k1 with | (b, s, k2) => (b, updT S1 x s, k2)).2.1 i).live = (S1 i).live
        rw [ha]
        show (updT S1 x s i).live = _
        by_cases e : i = x
        · subst e; rw [updT_same]; exact hx
        · rw [updT_other _ _ e]
/-- The live Tapes. -/
def lvs (S : Nat → TS) : List Nat := (List.range 3).filter fun i => (S i).live
theorem lvs_mem {S : Nat → TS} {i : Nat} (h : i ∈ lvs S) : i < 3 ∧ (S i).live = true := by
  have h := List.mem_filter.1 h
  exact ⟨List.mem_range.1 h.1, h.2⟩
theorem lvs_nodup (S : Nat → TS) : (lvs S).Nodup := List.nodup_range.sublist List.filter_sublist
theorem lvs_length (S : Nat → TS) : (lvs S).length = nlv S := by
  unfold lvs nlv one
  rw [show List.range 3 = [0, 1, 2] from rfl]
  cases h0 : (S 0).live <;> cases h1 : (S 1).live <;> cases h2 : (S 2).live <;> simp [List.filter, h0, h1, h2]
theorem goN_goL {act : ActT} (hact : ∀ s k, s.live = false → act s k = (true, s, k)) (S : Nat → TS) (k : Option Nat) : goN act S k 3 = goL act S k (lvs S) := by
  suffices H : ∀ t, goN act S k t = goL act S k ((List.range t).filter fun i => (S i).live) from H 3
  intro t
  induction t with
  | zero => rfl
  | succ t ih =>
    have hr := goN_rest (act := act) (S := S) (k := k) t t (Nat.le_refl _)
    rw [List.range_succ, List.filter_append]
    cases hl : (S t).live with
    | true =>
      rw [show List.filter (fun i => (S i).live) [t] = [t] by simp [hl], goL_snoc, ← ih]
      cases h : goN act S k t with
      | mk b r =>
        obtain ⟨S1, k1⟩ := r
        cases b with
        | false => rw [goN_no h]; rfl
        | true =>
          cases ha : act (S1 t) k1 with
          | mk b q =>
            obtain ⟨s, k2⟩ := q
            rw [goN_yes h ha]
            show _ = (match act (S1 t) k1 with | (b, s, k2) => (b, updT S1 t s, k2))
            rw [ha]
    | false =>
      rw [show List.filter (fun i => (S i).live) [t] = [] by simp [hl], List.append_nil, ← ih]
      cases h : goN act S k t with
      | mk b r =>
        obtain ⟨S1, k1⟩ := r
        cases b with
        | false => exact goN_no h
        | true =>
          rw [h] at hr
          have hr : S1 t = S t := hr
          rw [goN_yes h (hact (S1 t) k1 (by rw [hr]; exact hl)), updT_id]
theorem apA_off (z : List Nat) (s : TS) (k : Option Nat) (h : s.live = false) : apA z s k = (true, s, k) := by unfold apA; rw [h]; rfl
theorem syA_off (s : TS) (k : Option Nat) (h : s.live = false) : syA s k = (true, s, k) := by unfold syA; rw [h]; rfl
theorem fxA_off (m : List (List Nat)) (s : TS) (k : Option Nat) (h : s.live = false) : fxA m s k = (true, s, k) := by unfold fxA; rw [h, if_neg (by simp)]
theorem apA_live (z : List Nat) (s : TS) (k : Option Nat) : (apA z s k).2.1.live = s.live := by
  unfold apA
  cases h : s.live
  · exact h
  · by_cases e : k = some 0
    · simp [e, h]
    · simp [e]
theorem syA_live (s : TS) (k : Option Nat) : (syA s k).2.1.live = s.live := by
  unfold syA
  cases h : s.live
  · exact h
  · by_cases e : k = some 0
    · simp [e, h]
    · simp [e]
/-! ### Three Tapes in memory -/
structure Tps (w : World) (q : Nat → Nat) (fu : Option Nat) (S : Nat → TS) (T : Nat → Prop) : Prop where
  ex : ∃ (R : Nat → TS) (F : Nat → Nat → Prop), (∀ i, i < 3 → tapeOps.PT w (q i) fu (R i) (F i)) ∧ (∀ i, i < 3 → Alk (S i) (R i)) ∧ (∀ i j g, i < 3 → j < 3 → F i g → F j g → i = j) ∧ ∀ g, T g ↔ ∃ i, i < 3 ∧ F i g
structure Ts (w w' : World) (q : Nat → Nat) (fu k' : Option Nat) (T : Nat → Prop) (S' : Nat → TS) : Prop where
  ex : ∃ T', Tps w' q fu S' T' ∧ ∀ g, T' g → T g ∨ w.heap.size ≤ g
  up : Up (fun g => T g ∨ fu = some g) w w'
  fz : FzO w' fu k'
section
variable {w w' : World} {q : Nat → Nat} {fu k k' : Option Nat} {S S' : Nat → TS} {T : Nat → Prop}
theorem Tps.congr (h : Tps w q fu S T) (hs : ∀ i, i < 3 → Alk (S i) (S' i)) : Tps w q fu S' T := by
  obtain ⟨R, F, h1, h2, h3, h4⟩ := h.ex
  refine ⟨R, F, h1, fun i hi => ?_, h3, h4⟩
  obtain ⟨a1, a2⟩ := h2 i hi
  obtain ⟨b1, b2⟩ := hs i hi
  refine ⟨a1.trans b1.symm, fun h => ?_⟩
  rw [b1] at h
  rw [a2 h, b2 h]
theorem Tps.lt (h : Tps w q fu S T) : ∀ g, T g → g < w.heap.size := fun g hg => by
  obtain ⟨R, F, h1, h2, h3, h4⟩ := h.ex
  obtain ⟨i, hi, hg⟩ := (h4 g).1 hg
  exact tapeOps.lt (h1 i hi) g hg
theorem Tps.nf (h : Tps w q fu S T) (hf : FzO w fu k) : ∀ f, fu = some f → ¬ T f := fun f e hg => by
  obtain ⟨R, F, h1, h2, h3, h4⟩ := h.ex
  obtain ⟨i, hi, hg⟩ := (h4 f).1 hg
  exact tapeOps.nf (h1 i hi) hf f e hg
theorem Tps.le (h : Tps w q fu S T) : ∀ i, i < 3 → (S i).live = true → (S i).B.length ≤ 65536 ∧ (S i).loose ≤ (S i).B.length ∧ ∀ v ∈ (S i).B, v < 256 := fun i hi hv => by
  obtain ⟨R, F, h1, h2, h3, h4⟩ := h.ex
  obtain ⟨a1, a2⟩ := h2 i hi
  rw [← a2 hv]
  exact tapeOps.le (h1 i hi)
theorem Tps.keep {X : Nat → Prop} (h : Tps w q fu S T) (u : Up X w w') (hx : ∀ g, T g → ¬ X g) : Tps w' q fu S T := by
  obtain ⟨R, F, h1, h2, h3, h4⟩ := h.ex
  exact ⟨R, F, fun i hi => tapeOps.keep (h1 i hi) u fun g hg => hx g ((h4 g).2 ⟨i, hi, hg⟩), h2, h3, h4⟩
theorem Tps.nxt (h : Tps w q fu S T) (u : Up Nul w w') : Tps w' q fu S T := h.keep u fun _ _ h => h
theorem Ts.refl (h : Tps w q fu S T) (hf : FzO w fu k) : Ts w w q fu k T S := ⟨⟨T, h, fun g hg => .inl hg⟩, Up.refl _ _, hf⟩
theorem Ts.congr (h : Ts w w' q fu k' T S) (hs : ∀ i, i < 3 → Alk (S i) (S' i)) : Ts w w' q fu k' T S' := by
  obtain ⟨T', h1, h2⟩ := h.ex
  exact ⟨⟨T', h1.congr hs, h2⟩, h.up, h.fz⟩
/-- Nothing of the Tapes turns. -/
theorem Ts.nul (h : Tps w q fu S T) (hf : FzO w fu k) (u : Up Nul w w') : Ts w w' q fu k T S :=
  ⟨⟨T, h.nxt u, fun g hg => .inl hg⟩, u.mono fun g _ h => h.elim, hf.up u fun _ _ h => h⟩
theorem Ts.nxt {w2 : World} (h : Ts w w' q fu k' T S) (u : Up Nul w' w2) : Ts w w2 q fu k' T S := by
  obtain ⟨T', h1, h2⟩ := h.ex
  exact ⟨⟨T', h1.nxt u, h2⟩, h.up.trans (u.mono fun g _ h => h.elim), h.fz.up u fun _ _ h => h⟩
theorem Ts.pre {w0 : World} (h : Ts w w' q fu k' T S) (u : Up Nul w0 w) : Ts w0 w' q fu k' T S := by
  obtain ⟨T', h1, h2⟩ := h.ex
  exact ⟨⟨T', h1, fun g hg => (h2 g hg).imp id fun e => Nat.le_trans u.size e⟩, (u.mono fun g _ h => h.elim).trans h.up, h.fz⟩
theorem Up.past2 {X Y : Nat → Prop} {w w1 w2 : World} (h : Up X w w1) (u : Up Y w1 w2) (hy : ∀ g, g < w.heap.size → Y g → X g) : Up X w w2 := by
  refine ⟨u.os.trans h.os, u.tape.trans h.tape, u.output.trans h.output, Nat.le_trans h.size u.size, fun g hg hs => ?_⟩
  rw [u.block g (Nat.lt_of_lt_of_le hg h.size) fun e => hs (hy g hg e)]
  exact h.block g hg hs
/-- One Tape of the three has changed. -/
theorem Ts.then {w2 : World} {k2 : Option Nat} {S2 : Nat → TS} {T1 : Nat → Prop} (h : Ts w w' q fu k' T S) (h1 : ∀ g, T1 g → T g ∨ w.heap.size ≤ g) (d : Ts w' w2 q fu k2 T1 S2) : Ts w w2 q fu k2 T S2 := by
  obtain ⟨T', d1, d2⟩ := d.ex
  refine ⟨⟨T', d1, fun g hg => ?_⟩, h.up.past2 d.up fun g hg e => ?_, d.fz⟩
  · rcases d2 g hg with e | e
    · exact h1 g e
    · exact .inr (Nat.le_trans h.up.size e)
  · rcases e with e | e
    · rcases h1 g e with e | e
      · exact .inl e
      · omega
    · exact .inr e
theorem Tps.one (h : Tps w q fu S T) (hf : FzO w fu k) {i : Nat} (hi : i < 3) :
    ∃ F s, (∀ g, F g → T g) ∧ tapeOps.PT w (q i) fu s F ∧ Alk (S i) s ∧ ∀ w' k' s', Td tapeOps.PT w w' (q i) fu k' F s' → Ts w w' q fu k' T (updT S i s') := by
  obtain ⟨R, F, h1, h2, h3, h4⟩ := h.ex
  refine ⟨F i, R i, fun g hg => (h4 g).2 ⟨i, hi, hg⟩, h1 i hi, h2 i hi, fun w' k' s' d => ?_⟩
  obtain ⟨T', d1, d2⟩ := d.ex
  have hlt : ∀ j, j < 3 → ∀ g, F j g → g < w.heap.size := fun j hj g hg => tapeOps.lt (h1 j hj) g hg
  refine ⟨⟨fun g => T' g ∨ ∃ j, j < 3 ∧ ¬ j = i ∧ F j g, ⟨updT R i s', fun j g => if j = i then T' g else F j g, fun j hj => ?_, fun j hj => ?_, fun a b g ha hb => ?_, fun g => ?_⟩, fun g hg => ?_⟩, d.up.mono fun g _ e => ?_, d.fz⟩
  · by_cases e : j = i
    · subst e
      simp only [if_pos]
      rw [updT_same]
      exact d1
    · simp only [if_neg e]
      rw [updT_other _ _ e]
      refine tapeOps.keep (h1 j hj) d.up fun g hg e2 => ?_
      rcases e2 with e2 | e2
      · exact e (h3 j i g hj hi hg e2)
      · exact tapeOps.nf (h1 j hj) hf g e2 hg
  · by_cases e : j = i
    · subst e
      rw [updT_same, updT_same]
      exact Alk.refl _
    · rw [updT_other _ _ e, updT_other _ _ e]
      exact h2 j hj
  · by_cases ea : a = i <;> by_cases eb : b = i
    · intro _ _; rw [ea, eb]
    · simp only [if_pos ea, if_neg eb]
      intro x y
      exfalso
      rcases d2 g x with e | e
      · exact eb (h3 b i g hb hi y e)
      · have := hlt b hb g y; omega
    · simp only [if_neg ea, if_pos eb]
      intro y x
      exfalso
      rcases d2 g x with e | e
      · exact ea (h3 a i g ha hi y e)
      · have := hlt a ha g y; omega
    · simp only [if_neg ea, if_neg eb]
      exact h3 a b g ha hb
  · constructor
    · rintro (e | ⟨j, hj, e, hg⟩)
      · exact ⟨i, hi, by simp only [if_pos]; exact e⟩
      · exact ⟨j, hj, by simp only [if_neg e]; exact hg⟩
    · rintro ⟨j, hj, hg⟩
      by_cases e : j = i
      · simp only [if_pos e] at hg
        exact .inl hg
      · simp only [if_neg e] at hg
        exact .inr ⟨j, hj, e, hg⟩
  · rcases hg with e | ⟨j, hj, _, hg⟩
    · rcases d2 g e with e | e
      · exact .inl ((h4 g).2 ⟨i, hi, e⟩)
      · exact .inr e
    · exact .inl ((h4 g).2 ⟨j, hj, hg⟩)
  · rcases e with e | e
    · exact .inl ((h4 g).2 ⟨i, hi, e⟩)
    · exact .inr e
/-! ### One live Tape's calls -/
/-- A slice that is none of the Tapes' nor the Fuse's. -/
def Away (T : Nat → Prop) (fu : Option Nat) (a : Option Addr) (l : Nat) : Prop := l = 0 ∨ ∀ x, a = some x → ¬ T x.block ∧ fu ≠ some x.block
theorem tp_live (h : Tps w q fu S T) {i : Nat} (hi : i < 3) : Calls Try.prog 46 #[.pointer (some ⟨q i, 0, none⟩)] w fun e w' => e = .returned (.bool (S i).live) ∧ Up Nul w w' := by
  obtain ⟨R, F, h1, h2, h3, h4⟩ := h.ex
  rw [← (h2 i hi).1]
  exact islive_any (h1 i hi)
theorem tp_bytes (h : Tps w q fu S T) {i : Nat} (hi : i < 3) (hv : (S i).live = true) : Calls Try.prog 36 #[.pointer (some ⟨q i, 0, none⟩)] w fun e w' => ∃ a c, e = .returned (.tuple #[.slice a (S i).B.length c, .int .i64 0]) ∧ Got w w' a (S i).B.length c (S i).B := by
  obtain ⟨R, F, h1, h2, h3, h4⟩ := h.ex
  obtain ⟨a1, a2⟩ := h2 i hi
  obtain ⟨v, p1, p2⟩ := h1 i hi
  rw [← a2 hv]
  refine (pt_bytes p1).mono ?_
  rintro e w' ⟨⟨q1, _⟩ | ⟨_, a, c, e1, e2⟩, _⟩
  · rw [a1, hv] at q1; cases q1
  · exact ⟨a, c, e1, e2⟩
theorem tp_append (h : Tps w q fu S T) (hf : FzO w fu k) {i : Nat} (hi : i < 3) (hv : (S i).live = true) {a : Option Addr} {l : Nat} (c : Nat) {z : List Nat} (hz : SlN w a l z) (hc : l ≤ c) (hl : (S i).B.length + l ≤ 65536) (ha : Away T fu a l) :
    Calls Try.prog 37 #[.pointer (some ⟨q i, 0, none⟩), .slice a l c] w fun e w' => e = .returned (.int .i64 (if (apA z (S i) k).1 = true then 0 else 4)) ∧ Ts w w' q fu (apA z (S i) k).2.2 T (updT S i (apA z (S i) k).2.1) := by
  obtain ⟨F, s, g0, g1, ⟨_, g2⟩, g3⟩ := h.one hf hi
  obtain rfl := g2 hv
  have hm : apA z (S i) k = if k = some 0 then (false, S i, k) else (true, ⟨(S i).B ++ z, (S i).loose + z.length, true⟩, less k) := by unfold apA; rw [if_pos hv]
  rw [hm]
  refine (tapeOps.append g1 hf a l c z hz hc (by omega) (ha.imp (fun e => e) fun ha x hx => ⟨fun g => (ha x hx).1 (g0 _ g), (ha x hx).2⟩)).mono ?_
  rintro e w' (⟨q1, _⟩ | ⟨_, q2, _⟩ | ⟨_, _, q3, rfl, u⟩ | ⟨_, _, q3, rfl, d⟩)
  · rw [hv] at q1; cases q1
  · omega
  · rw [if_pos q3, updT_id]
    exact ⟨rfl, Ts.nul h hf u⟩
  · rw [if_neg q3]
    refine ⟨rfl, ?_⟩
    have := g3 w' _ _ d
    rw [← hz.len] at this
    exact this
theorem tp_sync (h : Tps w q fu S T) (hf : FzO w fu k) {i : Nat} (hi : i < 3) (hv : (S i).live = true) :
    Calls Try.prog 38 #[.pointer (some ⟨q i, 0, none⟩)] w fun e w' => e = .returned (.int .i64 (if (syA (S i) k).1 = true then 0 else 4)) ∧ Ts w w' q fu (syA (S i) k).2.2 T (updT S i (syA (S i) k).2.1) := by
  obtain ⟨F, s, g0, g1, ⟨_, g2⟩, g3⟩ := h.one hf hi
  obtain rfl := g2 hv
  have hm : syA (S i) k = if k = some 0 then (false, S i, k) else (true, ⟨(S i).B, 0, true⟩, k) := by unfold syA; rw [if_pos hv]
  rw [hm]
  refine (tapeOps.sync g1 hf).mono ?_
  rintro e w' (⟨q1, _⟩ | ⟨_, q3, rfl, u⟩ | ⟨_, q3, rfl, d⟩)
  · rw [hv] at q1; cases q1
  · rw [if_pos q3, updT_id]
    exact ⟨rfl, Ts.nul h hf u⟩
  · rw [if_neg q3]
    exact ⟨rfl, g3 w' _ _ d⟩
theorem tp_cut (h : Tps w q fu S T) (hf : FzO w fu k) {i : Nat} (hi : i < 3) (hv : (S i).live = true) (n : Nat) (hn : n ≤ (S i).B.length) :
    Calls Try.prog 62 #[.pointer (some ⟨q i, 0, none⟩), .int .i64 (n : Nat)] w fun e w' => (k = some 0 ∧ e = .returned (.int .i64 4) ∧ Ts w w' q fu k T S) ∨ (k ≠ some 0 ∧ e = .returned (.int .i64 0) ∧ Ts w w' q fu (less k) T (updT S i ⟨(S i).B.take n, 0, true⟩)) := by
  obtain ⟨F, s, g0, g1, ⟨_, g2⟩, g3⟩ := h.one hf hi
  obtain rfl := g2 hv
  refine (tapeOps.cut g1 hf (n : Nat)).mono ?_
  rintro e w' (⟨q1, _⟩ | ⟨_, q2, _⟩ | ⟨_, _, q3, rfl, u⟩ | ⟨_, _, q3, rfl, d⟩)
  · rw [hv] at q1; cases q1
  · omega
  · exact .inl ⟨q3, rfl, Ts.nul h hf u⟩
  · exact .inr ⟨q3, rfl, g3 w' _ _ d⟩
/-! ### 'rewrite' -/
/-- A Tape is cut, and more is appended and synced. -/
def rwT (s : TS) (k : Option Nat) (n : Nat) (z : List Nat) : Int × TS × Option Nat :=
  if k = some 0 then (4, s, k)
  else if less k = some 0 then (4, ⟨s.B.take n, 0, true⟩, less k)
  else if less (less k) = some 0 then (4, ⟨s.B.take n ++ z, z.length, true⟩, less (less k))
  else (0, ⟨s.B.take n ++ z, 0, true⟩, less (less k))
theorem updT_twice (S : Nat → TS) (i : Nat) (s s' : TS) : updT (updT S i s) i s' = updT S i s' := by
  funext j
  by_cases e : j = i
  · subst e; rw [updT_same, updT_same]
  · rw [updT_other _ _ e, updT_other _ _ e, updT_other _ _ e]
theorem Away.go {a : Option Addr} {l : Nat} {z : List Nat} {T1 : Nat → Prop} (h : Away T fu a l) (hz : SlN w a l z) (h1 : ∀ g, T1 g → T g ∨ w.heap.size ≤ g) : Away T1 fu a l := by
  by_cases h0 : l = 0
  · exact .inl h0
  · refine .inr fun x ex => ⟨fun e => ?_, (h.resolve_left h0 x ex).2⟩
    rcases h1 _ e with e | e
    · exact (h.resolve_left h0 x ex).1 e
    · have := hz.lt h0 x ex; omega
theorem Away.sl {a : Option Addr} {l : Nat} {z : List Nat} (h : Away T fu a l) (hz : SlN w a l z) (u : Up (fun g => T g ∨ fu = some g) w w') : SlN w' a l z :=
  hz.off u (h.imp id fun h x ex e => e.elim (h x ex).1 (h x ex).2)
theorem rewrite_any (h : Tps w q fu S T) (hf : FzO w fu k) {i : Nat} (hi : i < 3) (hv : (S i).live = true) (n : Nat) (hn : n ≤ (S i).B.length) {a : Option Addr} {l : Nat} (c : Nat) {z : List Nat} (hz : SlN w a l z) (hc : l ≤ c) (hl : n + l ≤ 65536) (ha : Away T fu a l) :
    Calls Try.prog 47 #[.pointer (some ⟨q i, 0, none⟩), .int .i64 (n : Nat), .slice a l c] w fun e w' => e = .returned (.int .i64 (rwT (S i) k n z).1) ∧ Ts w w' q fu (rwT (S i) k n z).2.2 T (updT S i (rwT (S i) k n z).2.1) := by
  have HC := hid (tp_cut h hf hi hv n hn)
  have HI := hid hi
  have HZ := hid hz
  have HA := hid ha
  have HN := hid (And.intro hn (And.intro hc hl))
  by_cases hk : k = some 0
  · have hm : rwT (S i) k n z = (4, S i, k) := by unfold rwT; rw [if_pos hk]
    have HK := hid hk
    rw [hm, updT_id]
    clear h hf hi hv hn hz hc hl ha hm hk
    go_enter Try.func47, Try.ntmps47
    go_wp2_with fail
    refine HC.out.mono ?_
    rintro e w1 (⟨_, rfl, d⟩ | ⟨q1, _⟩)
    · have HD := hid d
      clear d
      go_wp2
      go_ret
      exact ⟨rfl, HD.out⟩
    · exact absurd HK.out q1
  · have hm : rwT (S i) k n z = if less k = some 0 then (4, ⟨(S i).B.take n, 0, true⟩, less k) else if less (less k) = some 0 then (4, ⟨(S i).B.take n ++ z, z.length, true⟩, less (less k)) else (0, ⟨(S i).B.take n ++ z, 0, true⟩, less (less k)) := by unfold rwT; rw [if_neg hk]
    have HK := hid hk
    have HM := hid hm
    clear h hf hi hv hn hz hc hl ha hm hk
    go_enter Try.func47, Try.ntmps47
    go_wp2_with fail
    refine HC.out.mono ?_
    rintro e w1 (⟨q1, _⟩ | ⟨_, rfl, d⟩)
    · exact absurd q1 HK.out
    · obtain ⟨T1, d1, d2⟩ := d.ex
      have hap := tp_append d1 d.fz HI.out (by rw [updT_same]) c (HA.out.sl HZ.out d.up) HN.out.2.1 (by rw [updT_same]; show ((S i).B.take n).length + l ≤ 65536; rw [List.length_take]; have := HN.out.2.2; omega) (HA.out.go HZ.out d2)
      rw [updT_same, updT_twice] at hap
      have hsl := HA.out.sl HZ.out d.up
      have HD := hid d
      have HD2 := hid d2
      by_cases hk1 : less k = some 0
      · have ha1 : apA z ⟨(S i).B.take n, 0, true⟩ (less k) = (false, ⟨(S i).B.take n, 0, true⟩, less k) := by unfold apA; rw [if_pos rfl, if_pos hk1]
        rw [ha1] at hap
        have HAP : Hid (Calls Try.prog 37 #[.pointer (some ⟨q i, 0, none⟩), .slice a l c] w1 fun e w' => e = .returned (.int .i64 4) ∧ Ts w1 w' q fu (less k) T1 (updT S i ⟨(S i).B.take n, 0, true⟩)) := hap
        have HM1 := hid (HM.out.trans (if_pos hk1))
        clear d d1 d2 hap ha1 hk1 hsl HC
        go_wp2_with fail
        refine HAP.out.mono ?_
        rintro e w2 ⟨rfl, d⟩
        have HE := hid (HD.out.then HD2.out d)
        clear d
        go_wp2
        go_ret
        rw [HM1.out]
        exact ⟨rfl, HE.out⟩
      · have ha1 : apA z ⟨(S i).B.take n, 0, true⟩ (less k) = (true, ⟨(S i).B.take n ++ z, 0 + z.length, true⟩, less (less k)) := by unfold apA; rw [if_pos rfl, if_neg hk1]
        rw [ha1, Nat.zero_add] at hap
        have HAP : Hid (Calls Try.prog 37 #[.pointer (some ⟨q i, 0, none⟩), .slice a l c] w1 fun e w' => e = .returned (.int .i64 0) ∧ Ts w1 w' q fu (less (less k)) T1 (updT S i ⟨(S i).B.take n ++ z, z.length, true⟩)) := hap
        have HM1 := hid (HM.out.trans (if_neg hk1))
        clear d d1 d2 hap ha1 hk1 hsl HC
        go_wp2_with fail
        refine HAP.out.mono ?_
        rintro e w2 ⟨rfl, d⟩
        have hE := HD.out.then HD2.out d
        obtain ⟨T2, e1, e2⟩ := hE.ex
        have hsy := tp_sync e1 hE.fz HI.out (by rw [updT_same])
        rw [updT_same, updT_twice] at hsy
        have HE := hid hE
        have HE2 := hid e2
        by_cases hk2 : less (less k) = some 0
        · have ha2 : syA ⟨(S i).B.take n ++ z, z.length, true⟩ (less (less k)) = (false, ⟨(S i).B.take n ++ z, z.length, true⟩, less (less k)) := by unfold syA; rw [if_pos rfl, if_pos hk2]
          rw [ha2] at hsy
          have HSY : Hid (Calls Try.prog 38 #[.pointer (some ⟨q i, 0, none⟩)] w2 fun e w' => e = .returned (.int .i64 4) ∧ Ts w2 w' q fu (less (less k)) T2 (updT S i ⟨(S i).B.take n ++ z, z.length, true⟩)) := hsy
          have HM2 := hid (HM1.out.trans (if_pos hk2))
          clear d hE e1 e2 hsy HD HD2 HAP hk2 ha2
          go_wp2_with fail
          refine HSY.out.mono ?_
          rintro e w3 ⟨rfl, d⟩
          have HF := hid (HE.out.then HE2.out d)
          clear d HSY
          go_wp2
          go_ret
          rw [HM2.out]
          exact ⟨rfl, HF.out⟩
        · have ha2 : syA ⟨(S i).B.take n ++ z, z.length, true⟩ (less (less k)) = (true, ⟨(S i).B.take n ++ z, 0, true⟩, less (less k)) := by unfold syA; rw [if_pos rfl, if_neg hk2]
          rw [ha2] at hsy
          have HSY : Hid (Calls Try.prog 38 #[.pointer (some ⟨q i, 0, none⟩)] w2 fun e w' => e = .returned (.int .i64 0) ∧ Ts w2 w' q fu (less (less k)) T2 (updT S i ⟨(S i).B.take n ++ z, 0, true⟩)) := hsy
          have HM2 := hid (HM1.out.trans (if_neg hk2))
          clear d hE e1 e2 hsy HD HD2 HAP hk2 ha2
          go_wp2_with fail
          refine HSY.out.mono ?_
          rintro e w3 ⟨rfl, d⟩
          have HF := hid (HE.out.then HE2.out d)
          clear d HSY
          go_wp2
          go_ret
          rw [HM2.out]
          exact ⟨rfl, HF.out⟩
end
end Go.Proofs.Ytencinajieicpaa
