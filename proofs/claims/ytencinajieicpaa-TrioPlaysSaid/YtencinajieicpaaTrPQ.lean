/- The program's Trio in memory: New, Tapes, Records. -/
import Derived.Test.YtencinajieicpaaTrWrite
namespace Go.Proofs.Ytencinajieicpaa
open Go.RowKit
set_option linter.unusedVariables false

/-- The head of the program's Trio. -/
def trc (q : Nat → Nat) (N : Nat) : Obj := .cells #[.pointer (some ⟨q 0, 0, none⟩), .pointer (some ⟨q 1, 0, none⟩), .pointer (some ⟨q 2, 0, none⟩), .int .i64 (N : Nat)] 80 (0, 0)
/-- The program's Trio: its head t, its Tapes q. -/
structure PQr (w : World) (t : Nat) (q : Nat → Nat) (N : Nat) (fu : Option Nat) (S : Nat → TS) (T : Nat → Prop) : Prop where
  heap : w.heap[t]? = some (trc q N)
  ex : ∃ T0, Tps w q fu S T0 ∧ ¬ T0 t ∧ ∀ g, T g ↔ g = t ∨ T0 g
section
variable {w w' : World} {t : Nat} {q : Nat → Nat} {N : Nat} {fu k k' : Option Nat} {S S' : Nat → TS} {T T0 : Nat → Prop}
theorem trc_lt (h : w.heap[t]? = some (trc q N)) : t < w.heap.size := (Array.getElem?_eq_some_iff.1 h).1
theorem trc_nf (h : w.heap[t]? = some (trc q N)) (hf : FzO w fu k) : ∀ f, fu = some f → ¬ f = t := fun f e => by
  subst e
  have hz : Fz w f k := hf
  unfold trc at h
  exact ne_type hz.heap h (by decide)
theorem trc_cells (h : w.heap[t]? = some (trc q N)) : w.cell? ⟨t, 0, none⟩ = some (.pointer (some ⟨q 0, 0, none⟩)) ∧ w.cell? ⟨t, 1, none⟩ = some (.pointer (some ⟨q 1, 0, none⟩)) ∧ w.cell? ⟨t, 2, none⟩ = some (.pointer (some ⟨q 2, 0, none⟩)) ∧ w.cell? ⟨t, 3, none⟩ = some (.int .i64 (N : Nat)) ∧ ∀ i, w.frozen? ⟨t, i, none⟩ = false := by
  unfold trc at h
  exact ⟨by simp [World.cell?, h], by simp [World.cell?, h], by simp [World.cell?, h], by simp [World.cell?, h], fun i => by simp [World.frozen?, h]⟩
/-- Behind what was done to its Tapes. -/
theorem trc_kept (h : w.heap[t]? = some (trc q N)) (hf : FzO w fu k) (ht : ¬ T0 t) (d : Ts w w' q fu k' T0 S') : w'.heap[t]? = some (trc q N) :=
  (d.up.block t (trc_lt h) fun e => e.elim ht fun e => trc_nf h hf _ e rfl).trans h
theorem trc_did (h : w.heap[t]? = some (trc q N)) (hf : FzO w fu k) (ht : ¬ T0 t) (hT : ∀ g, T g ↔ g = t ∨ T0 g) (d : Ts w w' q fu k' T0 S') : Qd PQr w w' t q N fu k' T S' := by
  have hk := trc_kept h hf ht d
  obtain ⟨T', d1, d2⟩ := d.ex
  refine ⟨⟨fun g => g = t ∨ T' g, ⟨hk, T', d1, fun e => ?_, fun _ => Iff.rfl⟩, fun g hg => ?_⟩, d.up.mono fun g _ e => ?_, d.fz⟩
  · rcases d2 t e with e | e
    · exact ht e
    · have := trc_lt h; omega
  · rcases hg with e | e
    · exact .inl ((hT g).2 (.inl e))
    · exact (d2 g e).imp (fun e => (hT g).2 (.inr e)) id
  · exact e.imp (fun e => (hT g).2 (.inr e)) id
/-- .. and one record more counts. -/
theorem trc_more (h : w.heap[t]? = some (trc q N)) (hf : FzO w fu k) (ht : ¬ T0 t) (hT : ∀ g, T g ↔ g = t ∨ T0 g) (d : Ts w w' q fu k' T0 S') : Qd PQr w (w'.setCell ⟨t, 3, none⟩ (.int .i64 ((N + 1 : Nat) : Int))) t q (N + 1) fu k' T S' := by
  have hk := trc_kept h hf ht d
  obtain ⟨T', d1, d2⟩ := d.ex
  have htn : ¬ T' t := fun e => by
    rcases d2 t e with e | e
    · exact ht e
    · have := trc_lt h; omega
  have u : Up (One t) w' (w'.setCell ⟨t, 3, none⟩ (.int .i64 ((N + 1 : Nat) : Int))) := (Up.refl (One t) w').put rfl 3 _
  refine ⟨⟨fun g => g = t ∨ T' g, ⟨?_, T', d1.keep u fun g hg e => htn (by rw [← show g = t from e]; exact hg), htn, fun _ => Iff.rfl⟩, fun g hg => ?_⟩, ?_, d.fz.up u fun f e e2 => trc_nf h hf f e e2⟩
  · unfold trc at hk ⊢
    rw [heap_setCell_same w' t 3 _ _ _ hk]
    rfl
  · rcases hg with e | e
    · exact .inl ((hT g).2 (.inl e))
    · exact (d2 g e).imp (fun e => (hT g).2 (.inr e)) id
  · exact (d.up.mono fun g _ e => e.imp (fun e => (hT g).2 (.inr e)) id).trans (u.mono fun g _ e => .inl ((hT g).2 (.inl e)))
theorem ptr_tapes (h : w.heap[t]? = some (trc q N)) : Calls Try.prog 12 #[.pointer (some ⟨t, 0, none⟩)] w fun e w' => e = .returned (tri q) ∧ Up Nul w w' := by
  obtain ⟨c0, c1, c2, c3, fr⟩ := trc_cells h
  have UA : Hid (Up Nul w (w.alloc (.cells #[.pointer (some ⟨q 0, 0, none⟩), .pointer (some ⟨q 1, 0, none⟩), .pointer (some ⟨q 2, 0, none⟩)] 27))) := (Up.refl Nul w).alloc _
  have HT : Hid (tri q = .agg #[.pointer (some ⟨q 0, 0, none⟩), .pointer (some ⟨q 1, 0, none⟩), .pointer (some ⟨q 2, 0, none⟩)]) := rfl
  rw [HT.out]
  have UB : Up Nul w (w.alloc (.cells #[.pointer none, .pointer none, .pointer none] 27)) := (Up.refl Nul w).alloc _
  have d0 := (UB.cell (p := ⟨t, 0, none⟩) (trc_lt h) id).trans c0
  have d1 := (UB.cell (p := ⟨t, 1, none⟩) (trc_lt h) id).trans c1
  have d2 := (UB.cell (p := ⟨t, 2, none⟩) (trc_lt h) id).trans c2
  clear h HT UB
  generalize q 0 = q0 at c0 d0 UA ⊢
  generalize q 1 = q1 at c1 d1 UA ⊢
  generalize q 2 = q2 at c2 d2 UA ⊢
  go_enter Try.func12, Try.ntmps12
  go_wp2
  (try simp only [Exit.inBlock, Exit.then])
  refine bodyPost_ret (results_cell_row rfl _ _ w.heap.size 27 #[.pointer (some ⟨q0, 0, none⟩), .pointer (some ⟨q1, 0, none⟩), .pointer (some ⟨q2, 0, none⟩)] (0, 0) _ rfl (heap_alloc_new _ _) Try.underlying27 rfl (by kernel_rfl)) rfl ?_
  exact ⟨rfl, UA.out⟩
theorem ptr_records (h : w.heap[t]? = some (trc q N)) : Calls Try.prog 21 #[.pointer (some ⟨t, 0, none⟩)] w fun e w' => e = .returned (.int .i64 (N : Nat)) ∧ Up Nul w w' := by
  obtain ⟨c0, c1, c2, c3, fr⟩ := trc_cells h
  have UR := hid (Up.refl Nul w)
  clear h
  go_enter Try.func21, Try.ntmps21
  go_wp2
  go_ret
  exact ⟨rfl, UR.out⟩
/-! ### 'New' -/
def pv (j : Nat) (q : Nat → Nat) (i : Nat) : Option Addr := if i < j then some ⟨q i, 0, none⟩ else none
structure NewI (w wr : World) (tb : Nat) (fu : Option Nat) (j : Nat) (q : Nat → Nat) (F : Nat → Nat → Prop) : Prop where
  heap : wr.heap[tb]? = some (.cells #[.pointer (pv j q 0), .pointer (pv j q 1), .pointer (pv j q 2), .int .i64 0] 80 (0, 0))
  pt : ∀ i, i < j → tapeOps.PT wr (q i) fu ⟨[], 0, true⟩ (F i)
  new : ∀ i, i < j → ∀ g, F i g → w.heap.size ≤ g ∧ ¬ g = tb
  apart : ∀ a b g, a < j → b < j → F a g → F b g → a = b
  up : Up Nul w wr
  tb : w.heap.size ≤ tb
theorem NewI.more {wr w1 : World} {tb j tq : Nat} {F : Nat → Nat → Prop} {T' : Nat → Prop} (h : NewI w wr tb fu j q F) (hj : j < 3) (u : Up Nul wr w1) (g1 : tapeOps.PT w1 tq fu ⟨[], 0, true⟩ T') (g2 : ∀ g, T' g → wr.heap.size ≤ g) :
    NewI w (w1.setCell ⟨tb, j, none⟩ (.pointer (some ⟨tq, 0, none⟩))) tb fu (j + 1) (fun i => if i = j then tq else q i) (fun i => if i = j then T' else F i) := by
  have htl : tb < wr.heap.size := (Array.getElem?_eq_some_iff.1 h.heap).1
  have h1 : w1.heap[tb]? = some (.cells #[.pointer (pv j q 0), .pointer (pv j q 1), .pointer (pv j q 2), .int .i64 0] 80 (0, 0)) := (u.block tb htl id).trans h.heap
  have us : Up (One tb) w1 (w1.setCell ⟨tb, j, none⟩ (.pointer (some ⟨tq, 0, none⟩))) := (Up.refl (One tb) w1).put rfl j _
  have hlt : ∀ i, i < j → ∀ g, F i g → g < wr.heap.size := fun i hi g hg => tapeOps.lt (h.pt i hi) g hg
  refine ⟨?_, fun i hi => ?_, fun i hi g hg => ?_, fun a b g ha hb x y => ?_, (h.up.trans u).past us fun g hg => by rw [show g = tb from hg]; exact h.tb, h.tb⟩
  · rw [heap_setCell_same w1 tb j _ _ _ h1]
    match j, hj with
    | 0, _ => simp [pv]
    | 1, _ => simp [pv]
    | 2, _ => simp [pv]
  · by_cases e : i = j
    · simp only [if_pos e]
      exact tapeOps.keep g1 us fun g hg e2 => by have := g2 g hg; have : g = tb := e2; omega
    · simp only [if_neg e]
      exact tapeOps.keep (h.pt i (by omega)) ((u.mono fun _ _ h => h.elim).trans us) fun g hg e2 => (h.new i (by omega) g hg).2 e2
  · by_cases e : i = j
    · simp only [if_pos e] at hg
      have := g2 g hg
      have := h.up.size
      exact ⟨by omega, by omega⟩
    · simp only [if_neg e] at hg
      exact h.new i (by omega) g hg
  · by_cases ea : a = j <;> by_cases eb : b = j
    · rw [ea, eb]
    · simp only [if_pos ea, if_neg eb] at x y
      have := g2 g x
      have := hlt b (by omega) g y
      omega
    · simp only [if_neg ea, if_pos eb] at x y
      have := g2 g y
      have := hlt a (by omega) g x
      omega
    · simp only [if_neg ea, if_neg eb] at x y
      exact h.apart a b g (by omega) (by omega) x y
set_option maxRecDepth 100000 in
set_option maxHeartbeats 1600000 in
theorem ptr_new (hf : FzO w fu k) : Calls Try.prog 10 #[.pointer (fp fu)] w fun e w' => ∃ t q T, e = .returned (.pointer (some ⟨t, 0, none⟩)) ∧ PQr w' t q 0 fu (fun _ => ⟨[], 0, true⟩) T ∧ Up Nul w w' ∧ ∀ g, T g → w.heap.size ≤ g := by
  have HN : Hid (∀ W, Up Nul w W → Calls Try.prog 39 #[.pointer (fp fu)] W fun e w' => ∃ tq T', e = .returned (.pointer (some ⟨tq, 0, none⟩)) ∧ tapeOps.PT w' tq fu ⟨[], 0, true⟩ T' ∧ Up Nul W w' ∧ ∀ g, T' g → W.heap.size ≤ g) := fun W u => tapeOps.new (hf.up u fun _ _ h => h)
  have HI : Hid (NewI w (w.alloc (.cells #[.pointer none, .pointer none, .pointer none, .int .i64 0] 80)) w.heap.size fu 0 (fun _ => 0) (fun _ _ => False)) :=
    ⟨heap_alloc_new _ _, fun i hi => absurd hi (Nat.not_lt_zero i), fun i hi => absurd hi (Nat.not_lt_zero i), fun a b g ha => absurd ha (Nat.not_lt_zero a), (Up.refl Nul w).alloc _, Nat.le_refl _⟩
  clear hf
  generalize fp fu = p at HN ⊢
  go_enter Try.func10, Try.ntmps10
  go_wp2_with fail
  generalize World.alloc w _ = wa at HI ⊢
  obtain ⟨tb, TB⟩ : ∃ tb, Hid (w.heap.size = tb) := ⟨_, rfl⟩
  rw [TB.out] at HI ⊢
  go_loopw [7] (fun i wr => ∃ (j : Nat) (q : Nat → Nat) (F : Nat → Nat → Prop), j ≤ 3 ∧ i = .int .i64 (j : Nat) ∧ NewI w wr tb fu j q F) (fun i _ => 3 - (intOf i).toNat)
  case atStart => exact ⟨0, _, _, Nat.zero_le _, rfl, HI.out⟩
  case round =>
    clear HI
    obtain ⟨j, q, F, hj, rfl, hi⟩ := hrel
    have HI := hid hi
    have i0 : (0 : Int) ≤ (j : Int) := by omega
    by_cases hlt : j < 3
    · have i1 : (j : Int) < 3 := by omega
      have HJ := hid hlt
      have HTL : Hid (tb < wr.heap.size) := (Array.getElem?_eq_some_iff.1 hi.heap).1
      have HCE : Hid (∀ W, Up Nul wr W → (∃ v, W.cell? ⟨tb, j, none⟩ = some (.pointer v)) ∧ W.frozen? ⟨tb, j, none⟩ = false) := fun W u => by
        have h1 := (u.block tb HTL.out id).trans HI.out.heap
        refine ⟨?_, by simp [World.frozen?, h1]⟩
        match j, HJ.out with
        | 0, _ => exact ⟨_, by simp [World.cell?, h1]; rfl⟩
        | 1, _ => exact ⟨_, by simp [World.cell?, h1]; rfl⟩
        | 2, _ => exact ⟨_, by simp [World.cell?, h1]; rfl⟩
      clear hi hlt hj
      go_wp2_with fail
      go_region_with ((go_at_call 39; (with_reducible refine (HN.out _ (by first | exact HI.out.up.drew | exact HI.out.up)).mono ?_); rintro e w1 ⟨tq, T', rfl, g1, g2, g3⟩; have UP : Up Nul wr w1 := Up.trans (by first | exact (Up.refl Nul wr).drew | exact Up.refl _ _) g2; obtain ⟨⟨pc, c1⟩, f1⟩ := HCE.out w1 UP; have HD := hid (HI.out.more HJ.out UP g1 g3); clear g1 g2 g3 UP))
      all_goals
        go_wp2_with fail
        go_roundw
        case rel => exact ⟨j + 1, _, _, HJ.out, by go_num, HD.out⟩
        case measure => have := HJ.out; simp [intOf]; omega
    · obtain rfl : j = 3 := by omega
      clear hi hlt hj
      go_wp2_with fail
      go_ret
      refine ⟨tb, q, fun g => g = tb ∨ ∃ i, i < 3 ∧ F i g, rfl, ⟨HI.out.heap, fun g => ∃ i, i < 3 ∧ F i g, ⟨fun _ => ⟨[], 0, true⟩, F, fun i hi => HI.out.pt i hi, fun i _ => Alk.refl _, fun a b g ha hb => HI.out.apart a b g ha hb, fun _ => Iff.rfl⟩, ?_, fun _ => Iff.rfl⟩, HI.out.up, ?_⟩
      · rintro ⟨i, hi, hg⟩
        exact (HI.out.new i hi _ hg).2 rfl
      · rintro g (e | ⟨i, hi, hg⟩)
        · rw [e]; exact HI.out.tb
        · exact (HI.out.new i hi _ hg).1
end
end Go.Proofs.Ytencinajieicpaa
