/- Rows of Tapes: living, write, and whether one is full. -/
import Derived.Test.YtencinajieicpaaTrTapes
import Derived.Test.YtencinajieicpaaTrSplit
namespace Go.Proofs.Ytencinajieicpaa
open Go.RowKit
set_option linter.unusedVariables false

theorem info_tptr : (Try.prog.info? 26).map (fun i => (i.zero, i.size, i.bytes)) = some (some (.pointer none), 1, 8) := by kernel_rfl
/-- The slice v has the values ps, a cell each, in a block that P speaks of. -/
def PRow (P : Nat → Prop) (w : World) (v : Value) (ps : List Value) : Prop :=
  ∃ a c, v = .slice a ps.length c ∧ (ps.length = 0 ∨ ∃ g, a = some ⟨g, 0, none⟩ ∧ g < w.heap.size ∧ P g ∧ ∀ i x, ps[i]? = some x → w.cell? ⟨g, i, none⟩ = some x)
theorem OwnV.prow {T : TypeId} {base : Nat} {w : World} {v : Value} {xs : List Value} (h : OwnV T base w v xs) : PRow (fun g => base ≤ g) w v xs := by
  obtain ⟨a, c, e, _⟩ := h.shp
  refine ⟨a, c, e, ?_⟩
  by_cases h0 : xs.length = 0
  · exact .inl h0
  · obtain ⟨g, cap, e1, hb, hg, hc, _, _⟩ := h.row (by omega)
    rw [e] at e1
    injection e1 with e1
    exact .inr ⟨g, e1, hg, hb, hc⟩
theorem PRow.up {P X : Nat → Prop} {w w' : World} {v : Value} {ps : List Value} (h : PRow P w v ps) (u : Up X w w') (hx : ∀ g, g < w.heap.size → P g → ¬ X g) : PRow P w' v ps := by
  obtain ⟨a, c, e, h⟩ := h
  refine ⟨a, c, e, h.imp id ?_⟩
  rintro ⟨g, e1, hg, hp, hc⟩
  exact ⟨g, e1, Nat.lt_of_lt_of_le hg u.size, hp, fun i x hi => (u.cell (p := ⟨g, i, none⟩) hg (hx g hg hp)).trans (hc i x hi)⟩
theorem PRow.mono {P Q : Nat → Prop} {w : World} {v : Value} {ps : List Value} (h : PRow P w v ps) (hq : ∀ g, g < w.heap.size → P g → Q g) : PRow Q w v ps := by
  obtain ⟨a, c, e, h⟩ := h
  refine ⟨a, c, e, h.imp id ?_⟩
  rintro ⟨g, e1, hg, hp, hc⟩
  exact ⟨g, e1, hg, hq g hg hp, hc⟩
theorem PRow.nxt {P : Nat → Prop} {w w' : World} {v : Value} {ps : List Value} (h : PRow P w v ps) (u : Up Nul w w') : PRow P w' v ps := h.up u fun _ _ _ h => h
/-- Pointers to Tapes. -/
def ptrs (q : Nat → Nat) (L : List Nat) : List Value := L.map fun i => .pointer (some ⟨q i, 0, none⟩)
theorem ptrs_length (q : Nat → Nat) (L : List Nat) : (ptrs q L).length = L.length := by simp [ptrs]
theorem ptrs_at {q : Nat → Nat} {L : List Nat} {t : Nat} (h : t < L.length) : (ptrs q L)[t]? = some (.pointer (some ⟨q L[t], 0, none⟩)) := by simp [ptrs, h]
theorem idx_at (p0 p1 p2 : Value) : (∀ w, (Instr.index 27 (.agg #[p0, p1, p2]) (.int .i64 0)).run Try.prog w = .ok p0 w) ∧ (∀ w, (Instr.index 27 (.agg #[p0, p1, p2]) (.int .i64 1)).run Try.prog w = .ok p1 w) ∧ ∀ w, (Instr.index 27 (.agg #[p0, p1, p2]) (.int .i64 2)).run Try.prog w = .ok p2 w :=
  ⟨fun _ => by kernel_rfl, fun _ => by kernel_rfl, fun _ => by kernel_rfl⟩
/-! ### 'living' -/
def pick (B : Nat → Bool) (ps : Nat → Value) (t : Nat) : List Value := ((List.range t).filter B).map ps
theorem pick_yes {B : Nat → Bool} (ps : Nat → Value) {t : Nat} (h : B t = true) : pick B ps (t + 1) = pick B ps t ++ [ps t] := by
  unfold pick
  rw [List.range_succ, List.filter_append, List.map_append]
  simp [h]
theorem pick_no {B : Nat → Bool} (ps : Nat → Value) {t : Nat} (h : B t = false) : pick B ps (t + 1) = pick B ps t := by
  unfold pick
  rw [List.range_succ, List.filter_append, List.map_append]
  simp [h]
theorem pick_length (B : Nat → Bool) (ps : Nat → Value) (t : Nat) : (pick B ps t).length ≤ t := by
  unfold pick
  rw [List.length_map]
  have := List.length_filter_le B (List.range t)
  rw [List.length_range] at this
  exact this
set_option maxRecDepth 100000 in
set_option maxHeartbeats 3200000 in
theorem living_any (w : World) (po : Nat → Option Addr) (B : Nat → Bool) (hp : ∀ i, i < 3 → ∀ W, Up Nul w W → Calls Try.prog 46 #[.pointer (po i)] W fun e w' => e = .returned (.bool (B i)) ∧ Up Nul W w') :
    Calls Try.prog 41 #[.agg #[.pointer (po 0), .pointer (po 1), .pointer (po 2)]] w fun e w' => ∃ v, e = .returned v ∧ OwnV 26 w.heap.size w' v (pick B (fun i => .pointer (po i)) 3) ∧ Up Nul w w' := by
  obtain ⟨ps, PS⟩ : ∃ ps : Nat → Value, Hid (ps = fun i => .pointer (po i)) := ⟨_, rfl⟩
  rw [← PS.out]
  have HP := hid hp
  have HN := hid fun t h => pick_no (B := B) ps (t := t) h
  have HY := hid fun t h => pick_yes (B := B) ps (t := t) h
  have HL := hid fun t => pick_length B ps t
  obtain ⟨p0, P0⟩ : ∃ p, Hid (po 0 = p) := ⟨_, rfl⟩
  have Q0 : Hid (ps 0 = .pointer p0) := by show _ = _; rw [PS.out, ← P0.out]
  obtain ⟨p1, P1⟩ : ∃ p, Hid (po 1 = p) := ⟨_, rfl⟩
  have Q1 : Hid (ps 1 = .pointer p1) := by show _ = _; rw [PS.out, ← P1.out]
  obtain ⟨p2, P2⟩ : ∃ p, Hid (po 2 = p) := ⟨_, rfl⟩
  have Q2 : Hid (ps 2 = .pointer p2) := by show _ = _; rw [PS.out, ← P2.out]
  rw [P0.out, P1.out, P2.out]
  obtain ⟨x0, x1, x2⟩ := idx_at (.pointer p0) (.pointer p1) (.pointer p2)
  clear hp
  have UA : Hid (Up Nul w (w.alloc (.cells #[.pointer p0, .pointer p1, .pointer p2] 27))) := (Up.refl Nul w).alloc _
  go_enter Try.func41, Try.ntmps41
  go_wp2_with fail
  go_loopw [3, 7] (fun v i wr => ∃ t : Nat, t ≤ 3 ∧ i = .int .i64 (t : Nat) ∧ OwnV 26 w.heap.size wr v (pick B ps t) ∧ Up Nul w wr) (fun _ i _ => 3 - (intOf i).toNat)
  case atStart => exact ⟨0, Nat.zero_le _, rfl, OwnV.nil _ _ _, UA.out⟩
  case round =>
    obtain ⟨t, ht, rfl, ho, hu⟩ := hrel
    have HO := hid ho
    have HU := hid hu
    clear ho hu
    obtain rfl | rfl | rfl | rfl : t = 0 ∨ t = 1 ∨ t = 2 ∨ t = 3 := by omega
    · have HI := hid (HP.out 0 (by omega) _ HU.out)
      rw [P0.out] at HI
      cases hB : B 0 with
      | false =>
        rw [hB] at HI
        have HNX := hid (HN.out 0 hB)
        clear hB ht
        go_wp2_with fail
        refine HI.out.mono ?_
        rintro e w1 ⟨rfl, u1⟩
        have HU1 := hid (HU.out.trans u1)
        have HO1 := hid (HO.out.up u1 fun _ _ _ h => h)
        rw [← HNX.out] at HO1
        clear u1
        go_wp2_with fail
        go_roundw
        case rel => exact ⟨0 + 1, by omega, by go_num, HO1.out, HU1.out⟩
        case measure => simp [intOf]
      | true =>
        rw [hB] at HI
        have HNX := hid (HY.out 0 hB)
        rw [Q0.out] at HNX
        clear hB ht
        go_wp2_with fail
        refine HI.out.mono ?_
        rintro e w1 ⟨rfl, u1⟩
        have hua : Up Nul w1 (w1.alloc (.cells #[.pointer p0] 26)) := (Up.refl Nul w1).alloc _
        have HU1 := hid (HU.out.trans (u1.trans hua))
        have HOA := hid ((HO.out.up u1 fun _ _ _ h => h).alloc (.cells #[.pointer p0] 26))
        have HCE : Hid ((w1.alloc (.cells #[.pointer p0] 26)).cell? ⟨w1.heap.size, 0, none⟩ = some (.pointer p0)) := World.cell?_alloc_new w1 _ _ 0
        have HLL : Hid ((pick B ps 0).length + 1 ≤ 1000000) := by have := HL.out 0; show _ ≤ _; omega
        clear u1 hua
        go_wp2_with (first
          | (at_builtin; refine wpList_append_one Try.underlying83 info_tptr rfl (by omega) rfl (.tmp 12) (.tmp 14) rfl w.heap.size _ (pick B ps 0) rfl HOA.out ⟨w1.heap.size, 0, none⟩ 1 (.pointer p0) rfl HCE.out rfl HLL.out HU1.out.size ?_
             intro v3 w3 G1 G2 G3)
          | fail)
        have HO3 : Hid (OwnV 26 w.heap.size w3 v3 (pick B ps (0 + 1))) := by rw [HNX.out]; exact G1.out
        have HU3 : Hid (Up Nul w w3) := HU1.out.grown G2.out fun q hq => HOA.out.base q hq
        clear G1 G2 G3
        go_wp2_with fail
        go_roundw
        case rel => exact ⟨0 + 1, by omega, by go_num, HO3.out, HU3.out⟩
        case measure => simp [intOf]
    · have HI := hid (HP.out 1 (by omega) _ HU.out)
      rw [P1.out] at HI
      cases hB : B 1 with
      | false =>
        rw [hB] at HI
        have HNX := hid (HN.out 1 hB)
        clear hB ht
        go_wp2_with fail
        refine HI.out.mono ?_
        rintro e w1 ⟨rfl, u1⟩
        have HU1 := hid (HU.out.trans u1)
        have HO1 := hid (HO.out.up u1 fun _ _ _ h => h)
        rw [← HNX.out] at HO1
        clear u1
        go_wp2_with fail
        go_roundw
        case rel => exact ⟨1 + 1, by omega, by go_num, HO1.out, HU1.out⟩
        case measure => simp [intOf]
      | true =>
        rw [hB] at HI
        have HNX := hid (HY.out 1 hB)
        rw [Q1.out] at HNX
        clear hB ht
        go_wp2_with fail
        refine HI.out.mono ?_
        rintro e w1 ⟨rfl, u1⟩
        have hua : Up Nul w1 (w1.alloc (.cells #[.pointer p1] 26)) := (Up.refl Nul w1).alloc _
        have HU1 := hid (HU.out.trans (u1.trans hua))
        have HOA := hid ((HO.out.up u1 fun _ _ _ h => h).alloc (.cells #[.pointer p1] 26))
        have HCE : Hid ((w1.alloc (.cells #[.pointer p1] 26)).cell? ⟨w1.heap.size, 0, none⟩ = some (.pointer p1)) := World.cell?_alloc_new w1 _ _ 0
        have HLL : Hid ((pick B ps 1).length + 1 ≤ 1000000) := by have := HL.out 1; show _ ≤ _; omega
        clear u1 hua
        go_wp2_with (first
          | (at_builtin; refine wpList_append_one Try.underlying83 info_tptr rfl (by omega) rfl (.tmp 12) (.tmp 14) rfl w.heap.size _ (pick B ps 1) rfl HOA.out ⟨w1.heap.size, 0, none⟩ 1 (.pointer p1) rfl HCE.out rfl HLL.out HU1.out.size ?_
             intro v3 w3 G1 G2 G3)
          | fail)
        have HO3 : Hid (OwnV 26 w.heap.size w3 v3 (pick B ps (1 + 1))) := by rw [HNX.out]; exact G1.out
        have HU3 : Hid (Up Nul w w3) := HU1.out.grown G2.out fun q hq => HOA.out.base q hq
        clear G1 G2 G3
        go_wp2_with fail
        go_roundw
        case rel => exact ⟨1 + 1, by omega, by go_num, HO3.out, HU3.out⟩
        case measure => simp [intOf]
    · have HI := hid (HP.out 2 (by omega) _ HU.out)
      rw [P2.out] at HI
      cases hB : B 2 with
      | false =>
        rw [hB] at HI
        have HNX := hid (HN.out 2 hB)
        clear hB ht
        go_wp2_with fail
        refine HI.out.mono ?_
        rintro e w1 ⟨rfl, u1⟩
        have HU1 := hid (HU.out.trans u1)
        have HO1 := hid (HO.out.up u1 fun _ _ _ h => h)
        rw [← HNX.out] at HO1
        clear u1
        go_wp2_with fail
        go_roundw
        case rel => exact ⟨2 + 1, by omega, by go_num, HO1.out, HU1.out⟩
        case measure => simp [intOf]
      | true =>
        rw [hB] at HI
        have HNX := hid (HY.out 2 hB)
        rw [Q2.out] at HNX
        clear hB ht
        go_wp2_with fail
        refine HI.out.mono ?_
        rintro e w1 ⟨rfl, u1⟩
        have hua : Up Nul w1 (w1.alloc (.cells #[.pointer p2] 26)) := (Up.refl Nul w1).alloc _
        have HU1 := hid (HU.out.trans (u1.trans hua))
        have HOA := hid ((HO.out.up u1 fun _ _ _ h => h).alloc (.cells #[.pointer p2] 26))
        have HCE : Hid ((w1.alloc (.cells #[.pointer p2] 26)).cell? ⟨w1.heap.size, 0, none⟩ = some (.pointer p2)) := World.cell?_alloc_new w1 _ _ 0
        have HLL : Hid ((pick B ps 2).length + 1 ≤ 1000000) := by have := HL.out 2; show _ ≤ _; omega
        clear u1 hua
        go_wp2_with (first
          | (at_builtin; refine wpList_append_one Try.underlying83 info_tptr rfl (by omega) rfl (.tmp 12) (.tmp 14) rfl w.heap.size _ (pick B ps 2) rfl HOA.out ⟨w1.heap.size, 0, none⟩ 1 (.pointer p2) rfl HCE.out rfl HLL.out HU1.out.size ?_
             intro v3 w3 G1 G2 G3)
          | fail)
        have HO3 : Hid (OwnV 26 w.heap.size w3 v3 (pick B ps (2 + 1))) := by rw [HNX.out]; exact G1.out
        have HU3 : Hid (Up Nul w w3) := HU1.out.grown G2.out fun q hq => HOA.out.base q hq
        clear G1 G2 G3
        go_wp2_with fail
        go_roundw
        case rel => exact ⟨2 + 1, by omega, by go_num, HO3.out, HU3.out⟩
        case measure => simp [intOf]
    · go_wp2_with fail
      go_ret
      exact ⟨_, rfl, HO.out, HU.out⟩
/-- The Tapes that live. -/
theorem living_tps {w : World} {q : Nat → Nat} {fu : Option Nat} {S : Nat → TS} {T : Nat → Prop} (h : Tps w q fu S T) :
    Calls Try.prog 41 #[tri q] w fun e w' => ∃ v, e = .returned v ∧ PRow (fun g => w.heap.size ≤ g) w' v (ptrs q (lvs S)) ∧ Up Nul w w' := by
  refine (living_any w (fun i => some ⟨q i, 0, none⟩) (fun i => (S i).live) fun i hi W u => tp_live (h.nxt u) hi).mono ?_
  rintro e w' ⟨v, rfl, ho, u⟩
  exact ⟨v, rfl, ho.prow, u⟩
/-- Those but i. -/
theorem living_but {w : World} {q : Nat → Nat} {fu : Option Nat} {S : Nat → TS} {T : Nat → Prop} (h : Tps w q fu S T) (i : Nat) :
    Calls Try.prog 41 #[.agg #[.pointer (if i = 0 then none else some ⟨q 0, 0, none⟩), .pointer (if i = 1 then none else some ⟨q 1, 0, none⟩), .pointer (if i = 2 then none else some ⟨q 2, 0, none⟩)]] w fun e w' =>
      ∃ v, e = .returned v ∧ PRow (fun g => w.heap.size ≤ g) w' v (ptrs q ((List.range 3).filter fun j => decide (¬ j = i) && (S j).live)) ∧ Up Nul w w' := by
  refine (living_any w (fun j => if i = j then none else some ⟨q j, 0, none⟩) (fun j => decide (¬ j = i) && (S j).live) fun j hj W u => ?_).mono ?_
  · by_cases e : i = j
    · show Calls _ _ #[.pointer (if i = j then none else some ⟨q j, 0, none⟩)] _ _
      rw [if_pos e, decide_eq_false (fun h : ¬ j = i => h e.symm), Bool.false_and]
      exact (islive_nil W).mono fun e w' h => ⟨h.1, by rw [h.2]; exact Up.refl _ _⟩
    · show Calls _ _ #[.pointer (if i = j then none else some ⟨q j, 0, none⟩)] _ _
      rw [if_neg e, show decide (¬ j = i) = true from decide_eq_true (fun h : j = i => e h.symm), Bool.true_and]
      exact tp_live (h.nxt u) hj
  · rintro e w' ⟨v, rfl, ho, u⟩
    refine ⟨v, rfl, ?_, u⟩
    have hp : pick (fun j => decide (¬ j = i) && (S j).live) (fun j => .pointer (if i = j then none else some ⟨q j, 0, none⟩)) 3 = ptrs q ((List.range 3).filter fun j => decide (¬ j = i) && (S j).live) := by
      unfold pick ptrs
      refine List.map_congr_left fun j hj => ?_
      have := (List.mem_filter.1 hj).2
      rw [if_neg]
      intro e
      simp [e] at this
    rw [← hp]
    exact ho.prow
end Go.Proofs.Ytencinajieicpaa
