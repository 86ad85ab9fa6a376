/- 'besideUnit' of a Matrix. -/
import Derived.Test.YtebglmfdchfplaaMatSettle
import Derived.Test.YtebglmfdchfplaaMatMake
namespace Go.Proofs.Ytebglmfdchfplaa
open Go.RowKit
set_option linter.unusedVariables false

/-- The lines, the first k of them made. -/
structure Bes (W : World) (gl n m k : Nat) (b : Nat → Nat) (L : Nat → List Nat) (w : World) : Prop where
  lin : ∀ i, i < k → w.cell? ⟨gl, i, none⟩ = some (.slice (some ⟨b i, 0, none⟩) m m)
  any : ∀ i, i < n → ∃ v, w.cell? ⟨gl, i, none⟩ = some v
  frz : ∀ i, w.frozen? ⟨gl, i, none⟩ = false
  gll : gl < w.heap.size
  glo : W.heap.size ≤ gl
  rows : ∀ i, i < k → Blk w (b i) (L i)
  lens : ∀ i, i < k → (L i).length = m
  own : ∀ i, i < k → W.heap.size ≤ b i ∧ b i ≠ gl
  inj : ∀ i j, i < k → j < k → b i = b j → i = j
  up : Up Nul W w
theorem Bes.alloc {W w : World} {gl n m k : Nat} {b : Nat → Nat} {L : Nat → List Nat} (h : Bes W gl n m k b L w) (o : Obj) : Bes W gl n m k b L (w.alloc o) :=
  have hc : ∀ i, (w.alloc o).cell? ⟨gl, i, none⟩ = w.cell? ⟨gl, i, none⟩ := fun i => World.cell?_alloc_past _ _ _ h.gll
  { h with lin := fun i hi => (hc i).trans (h.lin i hi), any := fun i hi => by rw [hc]; exact h.any i hi, frz := fun i => (World.frozen?_alloc_past _ _ _ h.gll).trans (h.frz i)
           gll := by simpa using Nat.lt_succ_of_lt h.gll, rows := fun i hi => (h.rows i hi).alloc o, up := h.up.alloc o }
theorem Bes.drewN {W w : World} {gl n m k : Nat} {b : Nat → Nat} {L : Nat → List Nat} (h : Bes W gl n m k b L w) (d : Nat) : Bes W gl n m k b L (w.drewN d) :=
  { h with lin := h.lin, any := h.any, frz := h.frz, gll := h.gll, rows := fun i hi => (h.rows i hi).drewN d, up := h.up.drewN d }
theorem Bes.elim {W w : World} {F gl n m : Nat} {b : Nat → Nat} {L : Nat → List Nat} (h : Bes W gl n m n b L w) : Elim W F gl n m b L w :=
  ⟨h.lin, h.frz, h.gll, h.glo, h.rows, h.lens, h.own, h.inj, h.up.nul⟩
/-- One line more: a new block. -/
theorem Bes.next {W w w2 : World} {gl n m k g : Nat} {b : Nat → Nat} {L : Nat → List Nat} {y : List Nat} (h : Bes W gl n m k b L w) (hk : k < n) (hg : g = w.heap.size)
    (c1 : w2.cell? ⟨gl, k, none⟩ = some (.slice (some ⟨g, 0, none⟩) m m)) (hb : Blk w2 g y) (hl : y.length = m) (hs : w.heap.size ≤ w2.heap.size)
    (os : w2.os = w.os) (tape : w2.tape = w.tape) (output : w2.output = w.output) (hu : ∀ j, j < w.heap.size → j ≠ gl → w2.heap[j]? = w.heap[j]?) (hc : ∀ i, i ≠ k → w2.cell? ⟨gl, i, none⟩ = w.cell? ⟨gl, i, none⟩) (hf : ∀ i, w2.frozen? ⟨gl, i, none⟩ = false) :
    Bes W gl n m (k + 1) (fun i => if i = k then g else b i) (fun i => if i = k then y else L i) w2 where
  lin := fun i hi => by
    by_cases e : i = k
    · subst e; rw [c1]; simp
    · rw [hc i e, h.lin i (by omega)]; simp [e]
  any := fun i hi => by
    by_cases e : i = k
    · subst e; exact ⟨_, c1⟩
    · rw [hc i e]; exact h.any i hi
  frz := hf
  gll := Nat.lt_of_lt_of_le h.gll hs
  glo := h.glo
  rows := fun i hi => by
    by_cases e : i = k
    · subst e; simpa using hb
    · have hr := h.rows i (by omega)
      have ho := h.own i (by omega)
      simp only [e, if_false]
      exact ⟨(hu _ hr.lt ho.2).trans hr.heap, hr.small⟩
  lens := fun i hi => by
    by_cases e : i = k
    · simp [e, hl]
    · simp only [e, if_false]; exact h.lens i (by omega)
  own := fun i hi => by
    by_cases e : i = k
    · have := h.up.size
      have := h.gll
      simp only [e, if_true]
      omega
    · simp only [e, if_false]; exact h.own i (by omega)
  inj := fun i j hi hj e => by
    have hlt : ∀ l, l < k → b l < w.heap.size := fun l hl => (h.rows l hl).lt
    by_cases e1 : i = k
    · by_cases e2 : j = k
      · omega
      · simp only [e1, e2, if_true, if_false] at e
        have := hlt j (by omega)
        omega
    · by_cases e2 : j = k
      · simp only [e1, e2, if_true, if_false] at e
        have := hlt i (by omega)
        omega
      · simp only [e1, e2, if_false] at e
        exact h.inj i j (by omega) (by omega) e
  up := ⟨os.trans h.up.os, tape.trans h.up.tape, output.trans h.up.output, Nat.le_trans h.up.size hs, fun j hj hn => by
    have := h.glo
    rw [hu j (Nat.lt_of_lt_of_le hj h.up.size) (by omega)]
    exact h.up.block j hj hn⟩

theorem info_sl : (Try.prog.info? 22).map (fun i => (i.zero, i.size, i.bytes)) = some (some (.slice none 0 0), 1, 24) := by kernel_rfl
/-- n slices without bytes. -/
def nilS (n : Nat) : Array Value := madeCells (Value.slice none 0 0).cells (n * 1)
theorem nilS_at (n i : Nat) (h : i < n) : (nilS n)[i]? = some (.slice none 0 0) := by
  have h0 : i % 1 = 0 := Nat.mod_one i
  simp [nilS, madeCells, Value.cells, h, h0]
theorem make_slices (w : World) (n : Nat) (hn : n ≤ 1000) :
    (Instr.makeSlice 33 (.int .i64 n) (.int .i64 n)).run Try.prog w = .ok (.slice (some ⟨w.heap.size, 0, none⟩) n n) (w.alloc (.cells (nilS n) 22)) := by
  obtain ⟨i0, hi, hz0, hz1, hz2⟩ := info_parts info_sl
  have := run_make (P := Try.prog) (w := w) 33 22 i0 (.slice none 0 0) Try.underlying33 hi hz0 .i64 .i64 n n (by omega) (Int.le_refl _) (by rw [hz2]; omega) (by omega)
  rw [this, hz1, Int.toNat_natCast]
  rfl
theorem Bes.start (w : World) (n m : Nat) (b : Nat → Nat) (L : Nat → List Nat) : Bes w w.heap.size n m 0 b L (w.alloc (.cells (nilS n) 22)) :=
  have no : ∀ {p : Prop} {i : Nat}, i < 0 → p := fun h => absurd h (Nat.not_lt_zero _)
  ⟨fun _ h => no h, fun i hi => ⟨_, (World.cell?_alloc_new w _ _ i).trans (nilS_at n i hi)⟩, fun i => World.frozen?_alloc_new w _ _ i, by simp, Nat.le_refl _, fun _ h => no h, fun _ h => no h, fun _ h => no h, fun _ _ h => no h, (Up.refl _ _).alloc _⟩

/-- Row i of n rows of n cells, that of the unit behind it. -/
def besRow (n : Nat) (z : List Nat) (i : Nat) : List Nat := tab (2 * n) fun j => GfM.beside n (fun i j => z.getD (i * n + j) 0) i j
theorem besRow_eq {n i : Nat} {z : List Nat} (hi : i < n) (hz : i * n + n ≤ z.length) : (over (zer (2 * n)) 0 ((z.drop (i * n)).take n)).set (n + i) 1 = besRow n z i := by
  have hl : ((z.drop (i * n)).take n).length = n := by simp; omega
  have h0 : 0 + ((z.drop (i * n)).take n).length ≤ (zer (2 * n)).length := by rw [hl, zer_length]; omega
  refine eq_tab (by rw [List.length_set, over_length h0, zer_length]) fun j hj => ?_
  rw [getD_set _ _ _ _ (by rw [over_length h0, zer_length]; omega), over_at h0, hl]
  unfold GfM.beside
  by_cases e1 : j = n + i
  · rw [if_pos e1, if_neg (by omega), if_pos e1]
  · rw [if_neg e1]
    by_cases e2 : j < n
    · rw [if_pos (by omega), if_pos e2]
      simp [List.getD_eq_getElem?_getD, e2, List.getElem?_drop]
    · rw [if_neg (by omega), if_neg e2, if_neg e1, zer_at]

set_option maxRecDepth 100000 in
set_option maxHeartbeats 1600000 in
/-- The rows with those of the unit behind them. -/
theorem beside_any (p q F n : Nat) (z : List Nat) (w : World) (hm : Mat w p q F n n z) :
    Calls Try.prog 75 #[.pointer (some ⟨p, 0, none⟩)] w
      fun e w' => e = .returned (.slice (some ⟨w.heap.size, 0, none⟩) n n) ∧ ∃ b L, Bes w w.heap.size n (2 * n) n b L w' ∧ ∀ i, i < n → L i = besRow n z i := by
  have m1 := hm.rows
  have hn := hm.r32
  have hmk := make_slices w n (by omega)
  have HB := hid (Bes.start w n (2 * n) (fun _ => 0) (fun _ => []))
  have HM := hid hm
  clear hm
  go_enter Try.func75, Try.ntmps75
  go_wp2
  obtain ⟨gl, GL⟩ : ∃ x, Hid (x = w.heap.size) := ⟨_, rfl⟩
  rw [← GL.out] at HB ⊢
  go_loopw [12] (fun i wr => ∃ k : Nat, k ≤ n ∧ i = .int .i64 k ∧ ∃ b L, Bes w gl n (2 * n) k b L wr ∧ ∀ i, i < k → L i = besRow n z i) (fun i _ => n - (intOf i).toNat)
  case atStart => exact ⟨0, by omega, rfl, _, _, HB.out, fun _ h => absurd h (Nat.not_lt_zero _)⟩
  case round =>
    clear HB hmk
    obtain ⟨k, hk, rfl, b, L, hb, hL⟩ := hrel
    by_cases hlt : k < n
    · have hmr := HM.out.up hb.up id id
      have r2 := hmr.cols
      have HMR := hid hmr
      have hmk2 := make_bytes wr (2 * n) (by omega)
      have e2 : ((2 * n : Nat) : Int) = 2 * (n : Int) := by simp
      rw [e2] at hmk2
      obtain ⟨v0, c0⟩ := (hb.alloc (.cells (bys (zer (2 * n))) 5)).any k hlt
      have f0 := (hb.alloc (.cells (bys (zer (2 * n))) 5)).frz k
      have p0 : (wr.alloc (.cells (bys (zer (2 * n))) 5)).cell? ⟨p, 2, none⟩ = some (.int .i64 n) := (hmr.alloc _).cols
      have cA0 : ((wr.alloc (.cells (bys (zer (2 * n))) 5)).setCell ⟨gl, k, none⟩ (.slice (some ⟨wr.heap.size, 0, none⟩) (2 * n) (2 * n))).cell? ⟨gl, k, none⟩ = some (.slice (some ⟨wr.heap.size, 0, none⟩) (2 * n) (2 * n)) := World.cell?_setCell_same _ _ _ c0
      have hgne : gl ≠ wr.heap.size := by have := hb.gll; omega
      have hpn : p ≠ gl := by have := HM.out.pl; have := hb.glo; omega
      have hqn : q ≠ gl := by have := HM.out.ql; have := hb.glo; omega
      have hpg : p ≠ wr.heap.size := by have := hmr.pl; omega
      have hqg : q ≠ wr.heap.size := by have := hmr.ql; omega
      have hMA : Mat ((wr.alloc (.cells (bys (zer (2 * n))) 5)).setCell ⟨gl, k, none⟩ (.slice (some ⟨wr.heap.size, 0, none⟩) (2 * n) (2 * n))) p q F n n z := (hmr.alloc _).other (a := ⟨gl, k, none⟩) hpn hqn _
      have hBA : Blk ((wr.alloc (.cells (bys (zer (2 * n))) 5)).setCell ⟨gl, k, none⟩ (.slice (some ⟨wr.heap.size, 0, none⟩) (2 * n) (2 * n))) wr.heap.size (zer (2 * n)) := (Blk.new wr _ (zer_small _)).other (p := ⟨gl, k, none⟩) (fun e => hgne e.symm) _
      have HA := hid (And.intro hMA hBA)
      have HBB := hid hb
      have HL := hid hL
      have hzl : k * n + n ≤ z.length := by
        have := Nat.mul_le_mul_right n (show k + 1 ≤ n from hlt)
        rw [HM.out.len]
        rw [Nat.add_mul] at this
        omega
      have HZ := hid hzl
      have HW : Hid (((wr.alloc (.cells (bys (zer (2 * n))) 5)).setCell ⟨gl, k, none⟩ (.slice (some ⟨wr.heap.size, 0, none⟩) (2 * n) (2 * n))).heap.size = wr.heap.size + 1 ∧ (∀ j, j < wr.heap.size → j ≠ gl → ((wr.alloc (.cells (bys (zer (2 * n))) 5)).setCell ⟨gl, k, none⟩ (.slice (some ⟨wr.heap.size, 0, none⟩) (2 * n) (2 * n))).heap[j]? = wr.heap[j]?) ∧
          (∀ i, i ≠ k → ((wr.alloc (.cells (bys (zer (2 * n))) 5)).setCell ⟨gl, k, none⟩ (.slice (some ⟨wr.heap.size, 0, none⟩) (2 * n) (2 * n))).cell? ⟨gl, i, none⟩ = wr.cell? ⟨gl, i, none⟩) ∧
          (∀ i, ((wr.alloc (.cells (bys (zer (2 * n))) 5)).setCell ⟨gl, k, none⟩ (.slice (some ⟨wr.heap.size, 0, none⟩) (2 * n) (2 * n))).frozen? ⟨gl, i, none⟩ = false) ∧
          ((wr.alloc (.cells (bys (zer (2 * n))) 5)).setCell ⟨gl, k, none⟩ (.slice (some ⟨wr.heap.size, 0, none⟩) (2 * n) (2 * n))).os = wr.os ∧ ((wr.alloc (.cells (bys (zer (2 * n))) 5)).setCell ⟨gl, k, none⟩ (.slice (some ⟨wr.heap.size, 0, none⟩) (2 * n) (2 * n))).tape = wr.tape ∧ ((wr.alloc (.cells (bys (zer (2 * n))) 5)).setCell ⟨gl, k, none⟩ (.slice (some ⟨wr.heap.size, 0, none⟩) (2 * n) (2 * n))).output = wr.output) := by
        refine ⟨by simp, fun j hj hn => ?_, fun i hi => ?_, fun i => ?_, rfl, rfl, rfl⟩
        · rw [Below.heap_setCell _ _ _ _ hn]
          exact Below.heap_alloc _ _ _ hj
        · rw [World.cell?_setCell_other _ _ _ _ (by intro e; have := congrArg Addr.off e; simp at this; omega)]
          exact World.cell?_alloc_past _ _ _ hb.gll
        · rw [World.frozen?_setCell]
          exact (hb.alloc _).frz i
      clear hmr hb hL hMA hBA hzl e2
      go_wp2_with fail
      generalize ((wr.alloc (.cells (bys (zer (2 * n))) 5)).setCell ⟨gl, k, none⟩ (.slice (some ⟨wr.heap.size, 0, none⟩) (2 * n) (2 * n))) = wa at *
      obtain ⟨g, G⟩ : ∃ x, Hid (x = wr.heap.size) := ⟨_, rfl⟩
      rw [← G.out] at HA cA0 hgne hpg hqg ⊢
      have q2 := HA.out.1.cols
      have HM1 : Hid (Mat wa.drew p q F n n z) := HA.out.1.drew
      have HB1 : Hid (Blk wa.drew g (zer (2 * n))) := HA.out.2.drew
      clear c0 f0 p0 hmk2 r2 m1
      go_region_held3 (fun w' => w'.cell? ⟨gl, k, none⟩ = some (.slice (some ⟨g, 0, none⟩) (2 * n) (2 * n))) (first | assumption | go_keep)
        ((first
          | (go_at_call 52; (with_reducible refine (row_any p q F n n k z _ HM1.out hlt).mono ?_); rintro e wb ⟨rfl, m1, E1⟩; have D1 : Hid (Mat wb p q F n n z ∧ Blk wb g (zer (2 * n)) ∧ Up (One g) wa wb ∧ wb.heap.size = wa.heap.size) := (by show Mat wb p q F n n z ∧ _; rw [E1]; exact ⟨HM1.out.drewN m1, HB1.out.drewN m1, ((Up.refl _ wa).drew).drewN m1, rfl⟩); have d1 : wb.cell? ⟨gl, k, none⟩ = some (.slice (some ⟨g, 0, none⟩) (2 * n) (2 * n)) := (by rw [E1]; exact cA0); clear E1)
          | ((with_reducible refine step_copy_bytes rfl (.tmp 27) (.tmp 30) rfl g 0 n (2 * n) (2 * n) q (k * n) _ (zer (2 * n)) ((z.drop (k * n)).take n) D1.out.2.1 (D1.out.1.blk.row (k * n) n HZ.out) (by simp; have := HZ.out; omega) (by omega) (by rw [zer_length]; omega) rfl rfl ?_); intro wc H1 H2; have d2 := (H2.out.1.cell (p := ⟨gl, k, none⟩) (lt_of_cell d1) hgne).trans d1)))
      have hmc := D1.out.1.up H2.out.1 hpg hqg
      have e3 := hmc.cols
      have hl3 : (over (zer (2 * n)) 0 ((z.drop (k * n)).take n)).length = 2 * n := by
        rw [over_length (by rw [zer_length]; simp; have := HZ.out; omega), zer_length]
      have e4 := H1.out.cell (n + k) (by rw [hl3]; omega)
      have e5 := H1.out.froz (n + k)
      have i1 : (0 : Int) ≤ (n : Int) + (k : Int) := by omega
      have i2 : (n : Int) + (k : Int) < 2 * (n : Int) := by omega
      have E5 := hid hmc
      generalize (over (zer (2 * n)) 0 ((z.drop (k * n)).take n)).getD (n + k) 0 = u at e4
      clear hmc hl3
      go_wp2_with fail
      go_region
      go_wp2
      have hstep : Bes w gl n (2 * n) (k + 1) (fun i => if i = k then g else b i) (fun i => if i = k then besRow n z k else L i) ((wc.drewN 1).setCell ⟨g, n + k, none⟩ (.int .u8 1)) := by
        obtain ⟨w1, w2, w3, w4, w5, w6, w7⟩ := HW.out
        obtain ⟨_, _, d3, d4⟩ := D1.out
        obtain ⟨h3, h4⟩ := H2.out
        have hg := G.out
        have hh : ∀ j, j ≠ g → j < wr.heap.size + 1 → ((wc.drewN 1).setCell ⟨g, n + k, none⟩ (.int .u8 1)).heap[j]? = wa.heap[j]? := fun j hj hl => by
          rw [Below.heap_setCell _ _ _ _ hj]
          exact (h3.block j (by omega) hj).trans (d3.block j (by omega) hj)
        have hgl := HBB.out.gll
        have hcc : ∀ i, ((wc.drewN 1).setCell ⟨g, n + k, none⟩ (.int .u8 1)).cell? ⟨gl, i, none⟩ = wa.cell? ⟨gl, i, none⟩ := fun i => World.cell?_of_block (w := wa) (a := ⟨gl, i, none⟩) (hh gl hgne (by omega))
        have hff : ∀ i, ((wc.drewN 1).setCell ⟨g, n + k, none⟩ (.int .u8 1)).frozen? ⟨gl, i, none⟩ = wa.frozen? ⟨gl, i, none⟩ := fun i => World.frozen?_of_block (w := wa) (a := ⟨gl, i, none⟩) (hh gl hgne (by omega))
        have hbk := (H1.out.drewN 1).set (n + k) 1 (by omega)
        rw [besRow_eq hlt HZ.out] at hbk
        refine HBB.out.next hlt hg ((hcc k).trans cA0) hbk (tab_length _ _) (by simp; omega) (h3.os.trans (d3.os.trans w5)) (h3.tape.trans (d3.tape.trans w6)) (h3.output.trans (d3.output.trans w7)) (fun j hj hn => (hh j (by omega) (by omega)).trans (w2 j hj hn)) (fun i hi => (hcc i).trans (w3 i hi)) (fun i => (hff i).trans (w4 i))
      have HST := hid hstep
      clear hstep
      go_roundw
      case rel => exact ⟨k + 1, by omega, by go_num, _, _, HST.out, fun i hi => by
        by_cases e : i = k
        · simp [e]
        · simp only [e, if_false]
          exact HL.out i (by omega)⟩
      case measure => simp [intOf]; omega
    · obtain rfl : n = k := by omega
      have HBB := hid (And.intro hb hL)
      clear hb hL
      go_wp2
      go_ret
      have hg := GL.out
      subst hg
      exact ⟨rfl, b, L, HBB.out.1, HBB.out.2⟩
end Go.Proofs.Ytebglmfdchfplaa
