/- 'Cut', where it cuts. -/
import Derived.Test.YtcigmbjipnchaaaPadPart
namespace Go.Proofs.Ytcigmbjipnchaaa
open Go.RowKit
set_option linter.unusedVariables false

/-- Rows of bytes, one behind the other. -/
structure SR (w : World) (g o k : Nat) (R : Nat → List Nat) : Prop where
  cells : ∀ i, i < k → ∃ a c, w.cell? ⟨g, o + i, none⟩ = some (.slice a (R i).length c) ∧ SlN w a (R i).length (R i) ∧ (R i).length ≤ c ∧ (a = none → (R i).length = 0)
  lt : 0 < k → g < w.heap.size
theorem SR.nxt {w w' : World} {g o k : Nat} {R : Nat → List Nat} (h : SR w g o k R) (u : Up Nul w w') : SR w' g o k R :=
  ⟨fun i hi => by
    obtain ⟨a, c, h1, h2, h3, h4⟩ := h.cells i hi
    exact ⟨a, c, (u.cell (p := ⟨g, o + i, none⟩) (h.lt (by omega)) id).trans h1, h2.nxt u, h3, h4⟩, fun hk => Nat.lt_of_lt_of_le (h.lt hk) u.size⟩
theorem info_sl : (Try.prog.info? 22).map (fun i => (i.zero, i.size, i.bytes)) = some (some (.slice none 0 0), 1, 24) := by kernel_rfl
/-- n slices without bytes. -/
def nilS (n : Nat) : Array Value := madeCells (Value.slice none 0 0).cells (n * 1)
theorem nilS_at (n i : Nat) (h : i < n) : (nilS n)[i]? = some (.slice none 0 0) := by
  have h0 : i % 1 = 0 := Nat.mod_one i
  simp [nilS, madeCells, Value.cells, h, h0]
theorem make_slices (w : World) (n : Nat) (hn : n ≤ 1000) :
    (Instr.makeSlice 24 (.int .i64 n) (.int .i64 n)).run Try.prog w = .ok (.slice (some ⟨w.heap.size, 0, none⟩) n n) (w.alloc (.cells (nilS n) 22)) := by
  obtain ⟨i0, hi, hz0, hz1, hz2⟩ := info_parts info_sl
  have := run_make (P := Try.prog) (w := w) 24 22 i0 (.slice none 0 0) Try.underlying24 hi hz0 .i64 .i64 n n (by omega) (Int.le_refl _) (by rw [hz2]; omega) (by omega)
  rw [this, hz1, Int.toNat_natCast]
  rfl
/-- Row i of 64 bytes. -/
def quart (z : List Nat) (i : Nat) : List Nat := ((ful z).drop (16 * i)).take 16
theorem quart_length {z : List Nat} {i : Nat} (h : z.length ≤ 64) (hi : i < 4) : (quart z i).length = 16 := by
  unfold quart
  rw [List.length_take, List.length_drop, ful_length h]
  omega
/-- The first t rows are there. -/
structure Ct (W : World) (g q t : Nat) (z : List Nat) (w : World) : Prop where
  rows : ∀ i, i < t → ∃ b o c, w.cell? ⟨g, i, none⟩ = some (.slice (some ⟨b, o, none⟩) 16 c) ∧ Row w b o (quart z i) ∧ b < w.heap.size ∧ b ≠ g ∧ 16 ≤ c
  any : ∀ i, i < 4 → ∃ v, w.cell? ⟨g, i, none⟩ = some v
  frz : ∀ i, w.frozen? ⟨g, i, none⟩ = false
  glo : W.heap.size ≤ g
  gll : g < w.heap.size
  full : Blk w q (ful z)
  qg : q ≠ g
  up : Up Nul W w
theorem Ct.start {W w : World} {q : Nat} {z : List Nat} (hq : Blk w q (ful z)) (u : Up Nul W w) : Ct W w.heap.size q 0 z (w.alloc (.cells (nilS 4) 22)) :=
  ⟨fun _ h => absurd h (Nat.not_lt_zero _), fun i hi => ⟨_, (World.cell?_alloc_new w _ _ i).trans (nilS_at 4 i hi)⟩, fun i => World.frozen?_alloc_new w _ _ i, u.size, by simp, hq.alloc _, Nat.ne_of_lt hq.lt, u.alloc _⟩
theorem Ct.nxt {W w w' : World} {g q t : Nat} {z : List Nat} (h : Ct W g q t z w) (u : Up Nul w w') : Ct W g q t z w' :=
  ⟨fun i hi => by
    obtain ⟨b, o, c, h1, h2, h3, h4, h5⟩ := h.rows i hi
    exact ⟨b, o, c, (u.cell (p := ⟨g, i, none⟩) h.gll id).trans h1, h2.up u h3 id, Nat.lt_of_lt_of_le h3 u.size, h4, h5⟩,
   fun i hi => by
    obtain ⟨v, hv⟩ := h.any i hi
    exact ⟨v, (u.cell (p := ⟨g, i, none⟩) h.gll id).trans hv⟩,
   fun i => (u.froz (p := ⟨g, i, none⟩) h.gll id).trans (h.frz i), h.glo, Nat.lt_of_lt_of_le h.gll u.size, h.full.up u id, h.qg, h.up.trans u⟩
theorem Ct.put {W w : World} {g q t b o c : Nat} {z : List Nat} (h : Ct W g q t z w) (ht : t < 4) (hr : Row w b o (quart z t)) (hb : b < w.heap.size) (hg : b ≠ g) (hc : 16 ≤ c) :
    Ct W g q (t + 1) z (w.setCell ⟨g, t, none⟩ (.slice (some ⟨b, o, none⟩) 16 c)) := by
  have u : Up (One g) w (w.setCell ⟨g, t, none⟩ (.slice (some ⟨b, o, none⟩) 16 c)) := (Up.refl _ _).setCell (p := ⟨g, t, none⟩) (.inr (show One g g from rfl)) _
  obtain ⟨v0, hv0⟩ := h.any t ht
  refine ⟨fun i hi => ?_, fun i hi => ?_, fun i => ?_, h.glo, by simpa using h.gll, h.full.other (p := ⟨g, t, none⟩) h.qg _, h.qg, h.up.setCell (p := ⟨g, t, none⟩) (.inl h.glo) _⟩
  · by_cases e : i = t
    · subst e
      exact ⟨b, o, c, World.cell?_setCell_same _ _ _ hv0, hr.up u hb hg, by simpa using hb, hg, hc⟩
    · obtain ⟨b1, o1, c1, h1, h2, h3, h4, h5⟩ := h.rows i (by omega)
      refine ⟨b1, o1, c1, ?_, h2.up u h3 h4, by simpa using h3, h4, h5⟩
      rw [World.cell?_setCell_other _ _ _ _ (by intro e2; have := congrArg Addr.off e2; simp at this; omega)]
      exact h1
  · by_cases e : i = t
    · subst e
      exact ⟨_, World.cell?_setCell_same _ _ _ hv0⟩
    · obtain ⟨v, hv⟩ := h.any i hi
      exact ⟨v, by rw [World.cell?_setCell_other _ _ _ _ (by intro e2; have := congrArg Addr.off e2; simp at this; omega)]; exact hv⟩
  · rw [World.frozen?_setCell]; exact h.frz i
theorem Ct.sr {W w : World} {g q : Nat} {z : List Nat} (h : Ct W g q 4 z w) (hz : z.length ≤ 64) : SR w g 0 4 (quart z) :=
  ⟨fun i hi => by
    obtain ⟨b, o, c, h1, h2, h3, h4, h5⟩ := h.rows i hi
    have hl := quart_length hz hi
    rw [Nat.zero_add, hl]
    exact ⟨_, c, h1, ⟨hl, .inr ⟨b, o, rfl, h3, h2⟩, by omega⟩, h5, fun e => by cases e⟩, fun _ => h.gll⟩
set_option maxHeartbeats 800000 in
theorem cut_good (a : Option Addr) (n cap : Nat) (z : List Nat) (w : World) (hz : SlN w a n z) (h : n ≤ 64) :
    Calls Try.prog 8 #[.slice a n cap] w fun e w' => ∃ g, e = .returned (.tuple #[.slice (some ⟨g, 0, none⟩) 4 4, .bool true]) ∧ SR w' g 0 4 (quart z) ∧ w.heap.size ≤ g ∧ Up Nul w w' := by
  have HF := hid (full_good a n cap z w hz h)
  have HL : Hid (z.length ≤ 64) := by show _ ≤ _; rw [hz.len]; exact h
  clear hz h
  go_enter Try.func8, Try.ntmps8
  go_wp2_with fail
  refine HF.out.mono ?_
  rintro e w1 ⟨rfl, f1, f2⟩
  have HS := hid (Ct.start f1 f2)
  clear f1 f2 HF
  have hmk : (Instr.makeSlice 24 (.int .i64 4) (.int .i64 4)).run Try.prog w1 = .ok (.slice (some ⟨w1.heap.size, 0, none⟩) 4 4) (w1.alloc (.cells (nilS 4) 22)) := make_slices w1 4 (by omega)
  go_wp2_with fail
  obtain ⟨g, G⟩ : ∃ x, Hid (x = w1.heap.size) := ⟨_, rfl⟩
  obtain ⟨q, Q⟩ : ∃ x, Hid (x = w.heap.size) := ⟨_, rfl⟩
  rw [← G.out] at HS ⊢
  rw [← Q.out] at HS ⊢
  go_loopw [18] (fun i wr => ∃ k : Nat, k ≤ 4 ∧ i = .int .i64 k ∧ Ct w g q k z wr) (fun i _ => 4 - (intOf i).toNat)
  case atStart => exact ⟨0, by omega, rfl, HS.out⟩
  case round =>
    clear HS hmk
    obtain ⟨k, hk, rfl, hc⟩ := hrel
    have HC := hid hc
    clear hc
    by_cases hlt : k < 4
    · have hr := HC.out.full.row (16 * k) 16 (by rw [ful_length HL.out]; omega)
      have HB := hid (bclone_any (some ⟨q, 16 * k, none⟩) 16 (64 - 16 * k) (quart z k) wr ⟨quart_length HL.out hlt, .inr ⟨q, 16 * k, rfl, HC.out.full.lt, hr⟩, by omega⟩ (fun e => by cases e) (by omega))
      have hs : ∀ W, (Instr.slice 22 (.slice (some ⟨q, 0, none⟩) 64 64) (some (.int .i64 (16 * (k : Int)))) (some (.int .i64 (16 * ((k : Int) + 1)))) none).run Try.prog W = .ok (.slice (some ⟨q, 16 * k, none⟩) 16 (64 - 16 * k)) W := fun W => by
        have := run_part (some ⟨q, 0, none⟩) 64 64 (16 * k) (16 * (k + 1)) 16 (by omega) (by omega) W
        have e : atOff (some ⟨q, 0, none⟩) (16 * k) 64 = some ⟨q, 16 * k, none⟩ := by
          rw [atOff, if_neg (by omega)]
          exact congrArg some ((add_off q 0 (16 * k)).trans (by rw [Nat.zero_add]))
        rw [e] at this
        rw [← this]
        simp
      have i1 : (0 : Int) ≤ (k : Int) := by omega
      have i2 : (k : Int) < (4 : Int) := by omega
      clear hr
      go_wp2_with ((go_at_call 16; (with_reducible refine HB.out.mono ?_); rintro e w2 ⟨a', c, rfl, k1⟩; have K1 := hid k1; have HC2 := hid (HC.out.nxt k1.up); obtain ⟨v0, y0⟩ := HC2.out.any k hlt; have f0 := HC2.out.frz k; obtain ⟨b, o, rfl, hbn⟩ := k1.new (by omega); clear k1))
      go_roundw
      case rel =>
        refine ⟨k + 1, by omega, by go_num, ?_⟩
        obtain ⟨b2, o2, e2, hb2, r2⟩ := K1.out.sl.row.resolve_left (by omega)
        cases e2
        exact HC2.out.put hlt r2 hb2 (by have := HC.out.gll; omega) K1.out.cap
      case measure => simp [intOf]; omega
    · obtain rfl : k = 4 := by omega
      have HR := hid (HC.out.sr HL.out)
      have HU := hid HC.out.up
      have HG := hid HC.out.glo
      go_wp2
      go_ret2
      exact ⟨g, rfl, HR.out, HG.out, HU.out⟩
end Go.Proofs.Ytcigmbjipnchaaa
