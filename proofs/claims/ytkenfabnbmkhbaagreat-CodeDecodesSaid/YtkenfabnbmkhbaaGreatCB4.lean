/- Part 4 of what the walks rest on: MatBeside, MatTimes, MatInvert, MatPick, MatMake1, MatUnit. -/
import Derived.Test.YtkenfabnbmkhbaaGreatCB3
namespace Go.Proofs.YtkenfabnbmkhbaaGreat
open Go.RowKit
set_option linter.unusedVariables false

set_option maxRecDepth 100000 in
set_option maxHeartbeats 1600000 in
/-- The rows with those of the unit behind them. -/
theorem beside_any (p q F n : Nat) (z : List Nat) (w : World) (hm : Mat w p q F n n z) :
    Calls Tryz.prog 71 #[.pointer (some ⟨p, 0, none⟩)] w
      fun e w' => e = .returned (.slice (some ⟨w.heap.size, 0, none⟩) n n) ∧ ∃ b L, Bes w w.heap.size n (2 * n) n b L w' ∧ ∀ i, i < n → L i = besRow n z i := by
  have m1 := hm.rows
  have hn := hm.r32
  have hmk := make_slices w n (by omega)
  have HB := hid (Bes.start w n (2 * n) (fun _ => 0) (fun _ => []))
  have HM := hid hm
  clear hm
  go_enter Tryz.func71, Tryz.ntmps71
  go_wp2
  obtain ⟨gl, GL⟩ : ∃ x, Hid (x = w.heap.size) := ⟨_, rfl⟩
  rw [← GL.out] at HB ⊢
  go_loopw [12] (fun i wr => ∃ k : Nat, k ≤ n ∧ i = .int .i64 k ∧ ∃ b L, Bes w gl n (2 * n) k b L wr ∧ ∀ i, i < k → L i = besRow n z i) (fun i _ => n - (intOf i).toNat)
  case atStart => exact ⟨0, by omega, rfl, _, _, HB.out, fun _ h => absurd h (Nat.not_lt_zero _)⟩
  case round =>
    clear HB hmk
    obtain ⟨k, hk, rfl, b, L, hb, hL⟩ := hrel
    by_cases hlt : k < n
    · have hmr := HM.out.up hb.up id id
      have r2 := hmr.cols
      have HMR := hid hmr
      have hmk2 := make_bytes wr (2 * n) (by omega)
      have e2 : ((2 * n : Nat) : Int) = 2 * (n : Int) := by simp
      rw [e2] at hmk2
      obtain ⟨v0, c0⟩ := (hb.alloc (.cells (bys (zer (2 * n))) 5)).any k hlt
      have f0 := (hb.alloc (.cells (bys (zer (2 * n))) 5)).frz k
      have p0 : (wr.alloc (.cells (bys (zer (2 * n))) 5)).cell? ⟨p, 2, none⟩ = some (.int .i64 n) := (hmr.alloc _).cols
      have cA0 : ((wr.alloc (.cells (bys (zer (2 * n))) 5)).setCell ⟨gl, k, none⟩ (.slice (some ⟨wr.heap.size, 0, none⟩) (2 * n) (2 * n))).cell? ⟨gl, k, none⟩ = some (.slice (some ⟨wr.heap.size, 0, none⟩) (2 * n) (2 * n)) := World.cell?_setCell_same _ _ _ c0
      have hgne : gl ≠ wr.heap.size := by have := hb.gll; omega
      have hpn : p ≠ gl := by have := HM.out.pl; have := hb.glo; omega
      have hqn : q ≠ gl := by have := HM.out.ql; have := hb.glo; omega
      have hpg : p ≠ wr.heap.size := by have := hmr.pl; omega
      have hqg : q ≠ wr.heap.size := by have := hmr.ql; omega
      have hMA : Mat ((wr.alloc (.cells (bys (zer (2 * n))) 5)).setCell ⟨gl, k, none⟩ (.slice (some ⟨wr.heap.size, 0, none⟩) (2 * n) (2 * n))) p q F n n z := (hmr.alloc _).other (a := ⟨gl, k, none⟩) hpn hqn _
      have hBA : Blk ((wr.alloc (.cells (bys (zer (2 * n))) 5)).setCell ⟨gl, k, none⟩ (.slice (some ⟨wr.heap.size, 0, none⟩) (2 * n) (2 * n))) wr.heap.size (zer (2 * n)) := (Blk.new wr _ (zer_small _)).other (p := ⟨gl, k, none⟩) (fun e => hgne e.symm) _
      have HA := hid (And.intro hMA hBA)
      have HBB := hid hb
      have HL := hid hL
      have hzl : k * n + n ≤ z.length := by
        have := Nat.mul_le_mul_right n (show k + 1 ≤ n from hlt)
        rw [HM.out.len]
        rw [Nat.add_mul] at this
        omega
      have HZ := hid hzl
      have HW : Hid (((wr.alloc (.cells (bys (zer (2 * n))) 5)).setCell ⟨gl, k, none⟩ (.slice (some ⟨wr.heap.size, 0, none⟩) (2 * n) (2 * n))).heap.size = wr.heap.size + 1 ∧ (∀ j, j < wr.heap.size → j ≠ gl → ((wr.alloc (.cells (bys (zer (2 * n))) 5)).setCell ⟨gl, k, none⟩ (.slice (some ⟨wr.heap.size, 0, none⟩) (2 * n) (2 * n))).heap[j]? = wr.heap[j]?) ∧
          (∀ i, i ≠ k → ((wr.alloc (.cells (bys (zer (2 * n))) 5)).setCell ⟨gl, k, none⟩ (.slice (some ⟨wr.heap.size, 0, none⟩) (2 * n) (2 * n))).cell? ⟨gl, i, none⟩ = wr.cell? ⟨gl, i, none⟩) ∧
          (∀ i, ((wr.alloc (.cells (bys (zer (2 * n))) 5)).setCell ⟨gl, k, none⟩ (.slice (some ⟨wr.heap.size, 0, none⟩) (2 * n) (2 * n))).frozen? ⟨gl, i, none⟩ = false) ∧
          ((wr.alloc (.cells (bys (zer (2 * n))) 5)).setCell ⟨gl, k, none⟩ (.slice (some ⟨wr.heap.size, 0, none⟩) (2 * n) (2 * n))).os = wr.os ∧ ((wr.alloc (.cells (bys (zer (2 * n))) 5)).setCell ⟨gl, k, none⟩ (.slice (some ⟨wr.heap.size, 0, none⟩) (2 * n) (2 * n))).tape = wr.tape ∧ ((wr.alloc (.cells (bys (zer (2 * n))) 5)).setCell ⟨gl, k, none⟩ (.slice (some ⟨wr.heap.size, 0, none⟩) (2 * n) (2 * n))).output = wr.output) := by
        refine ⟨by simp, fun j hj hn => ?_, fun i hi => ?_, fun i => ?_, rfl, rfl, rfl⟩
        · rw [Below.heap_setCell _ _ _ _ hn]
          exact Below.heap_alloc _ _ _ hj
        · rw [World.cell?_setCell_other _ _ _ _ (by intro e; have := congrArg Addr.off e; simp at this; omega)]
          exact World.cell?_alloc_past _ _ _ hb.gll
        · rw [World.frozen?_setCell]
          exact (hb.alloc _).frz i
      clear hmr hb hL hMA hBA hzl e2
      go_wp2_with fail
      generalize ((wr.alloc (.cells (bys (zer (2 * n))) 5)).setCell ⟨gl, k, none⟩ (.slice (some ⟨wr.heap.size, 0, none⟩) (2 * n) (2 * n))) = wa at *
      obtain ⟨g, G⟩ : ∃ x, Hid (x = wr.heap.size) := ⟨_, rfl⟩
      rw [← G.out] at HA cA0 hgne hpg hqg ⊢
      have q2 := HA.out.1.cols
      have HM1 : Hid (Mat wa.drew p q F n n z) := HA.out.1.drew
      have HB1 : Hid (Blk wa.drew g (zer (2 * n))) := HA.out.2.drew
      clear c0 f0 p0 hmk2 r2 m1
      go_region_held3 (fun w' => w'.cell? ⟨gl, k, none⟩ = some (.slice (some ⟨g, 0, none⟩) (2 * n) (2 * n))) (first | assumption | go_keep)
        ((first
          | (go_at_call 48; (with_reducible refine (row_any p q F n n k z _ HM1.out hlt).mono ?_); rintro e wb ⟨rfl, m1, E1⟩; have D1 : Hid (Mat wb p q F n n z ∧ Blk wb g (zer (2 * n)) ∧ Up (One g) wa wb ∧ wb.heap.size = wa.heap.size) := (by show Mat wb p q F n n z ∧ _; rw [E1]; exact ⟨HM1.out.drewN m1, HB1.out.drewN m1, ((Up.refl _ wa).drew).drewN m1, rfl⟩); have d1 : wb.cell? ⟨gl, k, none⟩ = some (.slice (some ⟨g, 0, none⟩) (2 * n) (2 * n)) := (by rw [E1]; exact cA0); clear E1)
          | ((with_reducible refine step_copy_bytes rfl (.tmp 27) (.tmp 30) rfl g 0 n (2 * n) (2 * n) q (k * n) _ (zer (2 * n)) ((z.drop (k * n)).take n) D1.out.2.1 (D1.out.1.blk.row (k * n) n HZ.out) (by simp; have := HZ.out; omega) (by omega) (by rw [zer_length]; omega) rfl rfl ?_); intro wc H1 H2; have d2 := (H2.out.1.cell (p := ⟨gl, k, none⟩) (lt_of_cell d1) hgne).trans d1)))
      have hmc := D1.out.1.up H2.out.1 hpg hqg
      have e3 := hmc.cols
      have hl3 : (over (zer (2 * n)) 0 ((z.drop (k * n)).take n)).length = 2 * n := by
        rw [over_length (by rw [zer_length]; simp; have := HZ.out; omega), zer_length]
      have e4 := H1.out.cell (n + k) (by rw [hl3]; omega)
      have e5 := H1.out.froz (n + k)
      have i1 : (0 : Int) ≤ (n : Int) + (k : Int) := by omega
      have i2 : (n : Int) + (k : Int) < 2 * (n : Int) := by omega
      have E5 := hid hmc
      generalize (over (zer (2 * n)) 0 ((z.drop (k * n)).take n)).getD (n + k) 0 = u at e4
      clear hmc hl3
      go_wp2_with fail
      go_region
      go_wp2
      have hstep : Bes w gl n (2 * n) (k + 1) (fun i => if i = k then g else b i) (fun i => if i = k then besRow n z k else L i) ((wc.drewN 1).setCell ⟨g, n + k, none⟩ (.int .u8 1)) := by
        obtain ⟨w1, w2, w3, w4, w5, w6, w7⟩ := HW.out
        obtain ⟨_, _, d3, d4⟩ := D1.out
        obtain ⟨h3, h4⟩ := H2.out
        have hg := G.out
        have hh : ∀ j, j ≠ g → j < wr.heap.size + 1 → ((wc.drewN 1).setCell ⟨g, n + k, none⟩ (.int .u8 1)).heap[j]? = wa.heap[j]? := fun j hj hl => by
          rw [Below.heap_setCell _ _ _ _ hj]
          exact (h3.block j (by omega) hj).trans (d3.block j (by omega) hj)
        have hgl := HBB.out.gll
        have hcc : ∀ i, ((wc.drewN 1).setCell ⟨g, n + k, none⟩ (.int .u8 1)).cell? ⟨gl, i, none⟩ = wa.cell? ⟨gl, i, none⟩ := fun i => World.cell?_of_block (w := wa) (a := ⟨gl, i, none⟩) (hh gl hgne (by omega))
        have hff : ∀ i, ((wc.drewN 1).setCell ⟨g, n + k, none⟩ (.int .u8 1)).frozen? ⟨gl, i, none⟩ = wa.frozen? ⟨gl, i, none⟩ := fun i => World.frozen?_of_block (w := wa) (a := ⟨gl, i, none⟩) (hh gl hgne (by omega))
        have hbk := (H1.out.drewN 1).set (n + k) 1 (by omega)
        rw [besRow_eq hlt HZ.out] at hbk
        refine HBB.out.next hlt hg ((hcc k).trans cA0) hbk (tab_length _ _) (by simp; omega) (h3.os.trans (d3.os.trans w5)) (h3.tape.trans (d3.tape.trans w6)) (h3.output.trans (d3.output.trans w7)) (fun j hj hn => (hh j (by omega) (by omega)).trans (w2 j hj hn)) (fun i hi => (hcc i).trans (w3 i hi)) (fun i => (hff i).trans (w4 i))
      have HST := hid hstep
      clear hstep
      go_roundw
      case rel => exact ⟨k + 1, by omega, by go_num, _, _, HST.out, fun i hi => by
        by_cases e : i = k
        · simp [e]
        · simp only [e, if_false]
          exact HL.out i (by omega)⟩
      case measure => simp [intOf]; omega
    · obtain rfl : n = k := by omega
      have HBB := hid (And.intro hb hL)
      clear hb hL
      go_wp2
      go_ret
      have hg := GL.out
      subst hg
      exact ⟨rfl, b, L, HBB.out.1, HBB.out.2⟩

theorem dotk_xs (z1 z2 : List Nat) (k : Nat) : dotk z1 z2 k = GfM.xs k fun s => GfM.mul (z1.getD s 0) (z2.getD s 0) := by
  induction k with
  | zero => rfl
  | succ k ih => rw [dotk, GfM.xs, ih]
/-- Dot over two rows of one length. -/
theorem dot_eq (B b1 o1 c1 b2 o2 c2 n : Nat) (z1 z2 : List Nat) (w : World) (hf : Fld B w) (r1 : Row w b1 o1 z1) (r2 : Row w b2 o2 z2) (n1 : b1 ≠ B) (n2 : b2 ≠ B) (l1 : z1.length = n) (l2 : z2.length = n) (hn : n ≤ 2000) :
    Calls Tryz.prog 73 #[.pointer (some ⟨B, 0, none⟩), .slice (some ⟨b1, o1, none⟩) n c1, .slice (some ⟨b2, o2, none⟩) n c2] w
      fun e w' => e = .returned (.int .u8 (dotk z1 z2 n)) ∧ Kept B w w' := by
  have := dot_rows B b1 o1 c1 b2 o2 c2 z1 z2 w hf r1 r2 n1 n2 (by omega) (by omega)
  rw [l1, l2, Nat.min_self] at this
  exact this
theorem rowz_length {z : List Nat} {o n : Nat} (h : o + n ≤ z.length) : ((z.drop o).take n).length = n := by simp; omega
theorem rowz_at {z : List Nat} {o n s : Nat} (h : s < n) : ((z.drop o).take n).getD s 0 = z.getD (o + s) 0 := by
  simp [List.getD_eq_getElem?_getD, h, List.getElem?_drop]
/-- A row of numbers told by Dots: where a walk that fills block g stands. -/
structure Wk (w : World) (p q F r c : Nat) (z : List Nat) (g : Nat) (y : List Nat) (b2 o2 : Nat) (z2 : List Nat) (wr : World) : Prop where
  mat : Mat wr p q F r c z
  blk : Blk wr g y
  row2 : Row wr b2 o2 z2
  lt2 : b2 < wr.heap.size
  up : Up (One F) w wr
  fld : Fld F wr
  gF : g ≠ F
  gp : g ≠ p
  gq : g ≠ q
  g2 : b2 ≠ g
  F2 : b2 ≠ F
  gw : w.heap.size ≤ g
theorem Wk.drewN {w wr : World} {p q F r c g b2 o2 : Nat} {z y z2 : List Nat} (h : Wk w p q F r c z g y b2 o2 z2 wr) (n : Nat) : Wk w p q F r c z g y b2 o2 z2 (wr.drewN n) :=
  { h with mat := h.mat.drewN n, blk := h.blk.drewN n, row2 := ⟨h.row2.cells, h.row2.small⟩, lt2 := h.lt2, up := h.up.drewN n, fld := h.fld.drewN n }
theorem Wk.drew {w wr : World} {p q F r c g b2 o2 : Nat} {z y z2 : List Nat} (h : Wk w p q F r c z g y b2 o2 z2 wr) : Wk w p q F r c z g y b2 o2 z2 wr.drew := h.drewN 1
theorem Wk.kept {w wr w' : World} {p q F r c g b2 o2 : Nat} {z y z2 : List Nat} (h : Wk w p q F r c z g y b2 o2 z2 wr) (k : Kept F wr w') : Wk w p q F r c z g y b2 o2 z2 w' :=
  { h with mat := h.mat.kept k, blk := h.blk.up (Up.of_out k.1) h.gF, row2 := h.row2.of_out k.1 h.F2, lt2 := by rw [k.1.size]; exact h.lt2, up := h.up.trans (Up.of_out k.1), fld := k.2 }
theorem Wk.set {w wr : World} {p q F r c g b2 o2 : Nat} {z y z2 : List Nat} (h : Wk w p q F r c z g y b2 o2 z2 wr) (i v : Nat) (hv : v < 256) : Wk w p q F r c z g (y.set i v) b2 o2 z2 (wr.setCell ⟨g, i, none⟩ (.int .u8 v)) :=
  { h with mat := h.mat.other (a := ⟨g, i, none⟩) (fun e => h.gp e.symm) (fun e => h.gq e.symm) _, blk := h.blk.set i v hv
           row2 := ⟨fun j hj => by rw [World.cell?_setCell_other _ _ _ _ (by intro e; have := congrArg Addr.block e; simp at this; have := h.g2; omega)]; exact h.row2.cells j hj, h.row2.small⟩
           lt2 := by simpa using h.lt2, up := h.up.setCell (p := ⟨g, i, none⟩) (.inl h.gw) _, fld := h.fld.up (S := One g) ((Up.refl _ _).setCell (p := ⟨g, i, none⟩) (.inr (show One g g from rfl)) _) fun e => h.gF e.symm }
theorem far_cell {p g j k : Nat} (w : World) (v : Value) (h : p ≠ g) : (w.setCell ⟨g, k, none⟩ v).cell? ⟨p, j, none⟩ = w.cell? ⟨p, j, none⟩ :=
  World.cell?_setCell_other _ _ _ _ (by intro e; have := congrArg Addr.block e; simp at this; omega)
/-- The sums of products of row i with z2. -/
def sumAt (c : Nat) (z z2 : List Nat) (i : Nat) : Nat := GfM.xs c fun s => GfM.mul (z.getD (i * c + s) 0) (z2.getD s 0)
theorem dotk_sumAt {c i : Nat} {z z2 : List Nat} : dotk ((z.drop (i * c)).take c) z2 c = sumAt c z z2 i := by
  rw [dotk_xs]
  exact GfM.xs_congr fun s hs => by rw [rowz_at hs]
theorem sumAt_lt (c : Nat) (z z2 : List Nat) (i : Nat) : sumAt c z z2 i < 256 := GfM.xs_lt fun _ _ => GfM.mul_lt _ _
set_option maxRecDepth 100000 in
set_option maxHeartbeats 800000 in
theorem times_good (p q F r c b2 o2 cap : Nat) (z z2 : List Nat) (w : World) (hm : Mat w p q F r c z) (hf : Fld F w) (h2 : Row w b2 o2 z2) (hl : z2.length = c) (hb : b2 < w.heap.size) (hbF : b2 ≠ F) :
    Calls Tryz.prog 56 #[.pointer (some ⟨p, 0, none⟩), .slice (some ⟨b2, o2, none⟩) c cap] w
      fun e w' => e = .returned (.tuple #[.slice (some ⟨w.heap.size, 0, none⟩) r r, .int .i64 0]) ∧ Blk w' w.heap.size (tab r fun i => sumAt c z z2 i) ∧ Up (One F) w w' ∧ Fld F w' := by
  have m1 := hm.rows
  have m2 := hm.cols
  have hr := hm.r32
  have hc := hm.c32
  have hmk := make_bytes w r (by omega)
  have HW : Hid (Wk w p q F r c z w.heap.size (zer r) b2 o2 z2 (w.alloc (.cells (bys (zer r)) 5))) := by
    have a1 := hm.pl
    have a2 := hm.ql
    have a3 := hf.lt
    exact ⟨hm.alloc _, Blk.new w _ (zer_small r), h2.up ((Up.refl Nul w).alloc _) hb id, by simp; omega, (Up.refl _ w).alloc _, hf.alloc _, by omega, by omega, by omega, by omega, hbF, Nat.le_refl _⟩
  have HL := hid hl
  have HMl := hid hm
  generalize w.alloc (.cells (bys (zer r)) 5) = w0 at *
  clear hm hf h2 hl hb hbF
  go_enter Tryz.func56, Tryz.ntmps56
  go_wp2
  generalize HG : w.heap.size = g at *
  go_loopw [22] (fun i wr => ∃ k : Nat, k ≤ r ∧ i = .int .i64 k ∧ ∃ y, Wk w p q F r c z g y b2 o2 z2 wr ∧ y.length = r ∧ ∀ i, i < k → y.getD i 0 = sumAt c z z2 i) (fun i _ => r - (intOf i).toNat)
  case atStart => exact ⟨0, by omega, rfl, _, HW.out, zer_length _, fun _ h => absurd h (Nat.not_lt_zero _)⟩
  case round =>
    obtain ⟨k, hk, rfl, y, hy, hyl, hyt⟩ := hrel
    by_cases hlt : k < r
    · have s0 := hy.mat.f
      have HM1 := hid hy.mat.drew
      have HY := hid hy
      have HYL := hid hyl
      have HYT := hid hyt
      have i1 : (0 : Int) ≤ (k : Int) := by omega
      have i2 : (k : Int) < (r : Int) := by omega
      have hpg : p ≠ g := fun e => hy.gp e.symm
      obtain ⟨v, V⟩ : ∃ v, Hid (sumAt c z z2 k = v) := ⟨_, rfl⟩
      have v8 : v < 256 := by rw [← V.out]; exact sumAt_lt _ _ _ _
      have hzl : k * c + c ≤ z.length := by
        have := Nat.mul_le_mul_right c (show k + 1 ≤ r from hlt)
        rw [hy.mat.len]
        rw [Nat.add_mul] at this
        omega
      have HZL := hid (rowz_length hzl)
      have HZ2 := hid hzl
      clear hy hyl hyt hzl
      go_wp2_with fail
      go_region_held3 (fun w' => w'.cell? ⟨p, 0, none⟩ = some (.pointer (some ⟨F, 0, none⟩))) (first | assumption | exact (far_cell _ _ hpg).trans (by assumption) | go_keep)
        ((first
          | (go_at_call 48; (with_reducible refine (row_any p q F r c k z _ HM1.out hlt).mono ?_); rintro e w1 ⟨rfl, m1, E1⟩; have D1 : Hid (Wk w p q F r c z g y b2 o2 z2 w1) := (by show Wk w p q F r c z g y b2 o2 z2 w1; rw [E1]; exact HY.out.drew.drewN m1); have s1 := D1.out.mat.f; clear E1)
          | (go_at_call 73; (with_reducible refine (dot_eq F q (k * c) _ b2 o2 _ c _ z2 _ D1.out.fld (D1.out.mat.blk.row (k * c) c HZ2.out) D1.out.row2 D1.out.mat.qF D1.out.F2 HZL.out HL.out (by omega)).mono ?_); rintro e w2 ⟨he, k2⟩; rw [dotk_sumAt, V.out] at he; subst he; have D2 := hid (D1.out.kept k2); clear k2; have s2 := D2.out.mat.f; have t2 := D2.out.blk.cell k (by rw [HYL.out]; exact hlt); have t3 := D2.out.blk.froz k)))
      go_wp2
      go_roundw
      case rel => exact ⟨k + 1, by omega, by go_num, _, D2.out.set k v v8, by rw [List.length_set]; exact HYL.out, fun i hi => by
        rw [getD_set _ _ _ _ (by rw [HYL.out]; exact hlt)]
        split
        · next e => rw [e, V.out]
        · exact HYT.out i (by omega)⟩
      case measure => simp [intOf]; omega
    · obtain rfl : r = k := by omega
      have HY := hid (And.intro hy (And.intro hyl hyt))
      clear hy hyl hyt
      go_wp2
      go_ret2
      subst HG
      refine ⟨rfl, ?_, HY.out.1.up, HY.out.1.fld⟩
      rw [← eq_tab HY.out.2.1 HY.out.2.2]
      exact HY.out.1.blk
/-- The cells of a product, row by row. -/
def prodZ (r k c : Nat) (z z2 : List Nat) : List Nat := tab (r * c) fun t => sumAt k z (colOf k c (t % c) z2) (t / c)

theorem stl_congr {n m at_ p : Nat} {L M : GfM.Mx} (h : ∀ i j, i < n → j < m → L i j = M i j) (ha : at_ < n) (hp : p < n) (hm : at_ < m) (i j : Nat) (hi : i < n) (hj : j < m) : GfM.stl at_ p L i j = GfM.stl at_ p M i j := by
  unfold GfM.stl GfM.swp
  rw [h p j hp hj, h p at_ hp hm]
  by_cases e1 : i = at_
  · rw [if_pos e1, if_pos e1]
  · rw [if_neg e1, if_neg e1, if_neg e1, if_neg e1]
    by_cases e2 : i = p
    · rw [if_pos e2, if_pos e2, h at_ j ha hj, h at_ at_ ha hm]
    · rw [if_neg e2, if_neg e2, h i j hi hj, h i at_ hi hm]
theorem run_stuck {n k : Nat} {L M : GfM.Mx} (h : GfM.run n L k = some M) (hp : GfM.pivot n k M = none) (d : Nat) : GfM.run n L (k + 1 + d) = none := by
  induction d with
  | zero => simp [GfM.run, h, hp]
  | succ d ih => rw [← Nat.add_assoc, GfM.run, ih]; rfl
theorem run_next {n k p : Nat} {L M : GfM.Mx} (h : GfM.run n L k = some M) (hp : GfM.pivot n k M = some p) : GfM.run n L (k + 1) = some (GfM.stl k p M) := by
  simp [GfM.run, h, hp]
/-- The cells of n rows of n. -/
def cz (n : Nat) (z : List Nat) : GfM.Mx := fun i j => z.getD (i * n + j) 0
/-- Where no line has anything in the column: false. -/
theorem settle_none2 (W : World) (p F gl n m at_ : Nat) (b : Nat → Nat) (L : Nat → List Nat) (w : World) (h : Elim W F gl n m b L w) (hf : Fld F w) (ha : at_ < n) (hnm : n ≤ m) (hn : n ≤ 32)
    (hp : GfM.pivot n at_ (celL L) = none) :
    Calls Tryz.prog 72 #[.pointer (some ⟨p, 0, none⟩), .slice (some ⟨gl, 0, none⟩) n n, .int .i64 at_] w
      fun e w' => e = .returned (.bool false) ∧ Up (One F) W w' ∧ Fld F w' := by
  have hmf : ∀ (fn : Fn) (first cap : Array Value) (w : World), (Instr.makeFunc fn first cap).run Tryz.prog w = .ok (.func fn first cap) w := fun _ _ _ _ => rfl
  have hA : (w.alloc (.cells #[.int .i64 at_] 3)).cell? ⟨w.heap.size, 0, none⟩ = some (.int .i64 at_) := World.cell?_alloc_new w _ _ 0
  have H : Hid _ := h.alloc (.cells #[.int .i64 at_] 3)
  have HP : Hid _ := hp
  have HF := hid (hf.alloc (.cells #[.int .i64 at_] 3))
  clear h hp hf
  go_enter Tryz.func72, Tryz.ntmps72
  go_wp2_with ((go_at_call 74; (with_reducible refine (index_none W F gl n m at_ w.heap.size _ b L _ H.out hA (by omega) hn HP.out).mono ?_); rintro e w1 ⟨rfl, rfl⟩))
  go_ret
  exact ⟨rfl, H.out.up, HF.out⟩
theorem Mat.copied {w w' : World} {p q F r c : Nat} {y y' : List Nat} (h : Mat w p q F r c y) (hb : Blk w' q y') (hl : y'.length = y.length) (u : Up (One q) w w') : Mat w' p q F r c y' :=
  have hc : ∀ j, w'.cell? ⟨p, j, none⟩ = w.cell? ⟨p, j, none⟩ := fun j => u.cell (p := ⟨p, j, none⟩) h.pl h.pq
  { h with f := (hc 0).trans h.f, rows := (hc 1).trans h.rows, cols := (hc 2).trans h.cols, cells := (hc 3).trans h.cells, blk := hb, len := hl.trans h.len, pl := Nat.lt_of_lt_of_le h.pl u.size }
theorem row_told {n k : Nat} {y s : List Nat} {f : Nat → Nat → Nat} (hn : 0 < n) (hs : s.length = n) (hl : k * n + n ≤ y.length) (ht : ∀ t, t < k * n → y.getD t 0 = f (t / n) (t % n)) (hr : ∀ j, j < n → s.getD j 0 = f k j) :
    ∀ t, t < (k + 1) * n → (over y (k * n) s).getD t 0 = f (t / n) (t % n) := by
  intro t h
  rw [Nat.add_mul, Nat.one_mul] at h
  rw [over_at (by rw [hs]; exact hl), hs]
  by_cases e : k * n ≤ t
  · rw [if_pos ⟨e, by omega⟩, hr _ (by omega)]
    obtain ⟨j, rfl⟩ : ∃ j, t = k * n + j := ⟨t - k * n, by omega⟩
    have hj : j < n := by omega
    rw [Nat.add_sub_cancel_left, Nat.mul_comm k n, Nat.mul_add_mod, Nat.mod_eq_of_lt hj, Nat.mul_add_div hn, Nat.div_eq_of_lt hj, Nat.add_zero]
  · rw [if_neg (by omega), ht t (by omega)]
set_option maxRecDepth 100000 in
set_option maxHeartbeats 3200000 in
theorem invert_any (p q F n : Nat) (z : List Nat) (w : World) (hm : Mat w p q F n n z) (hf : Fld F w) :
    Calls Tryz.prog 54 #[.pointer (some ⟨p, 0, none⟩)] w fun e w' => Up (One F) w w' ∧ Fld F w' ∧
      ((GfM.run n (GfM.beside n (cz n z)) n = none ∧ e = .returned (.tuple #[.pointer none, .int .i64 2])) ∨
       ∃ M, GfM.run n (GfM.beside n (cz n z)) n = some M ∧ e = .returned (.tuple #[.pointer (some ⟨w.heap.size + 1, 0, none⟩), .int .i64 0]) ∧ Mat w' (w.heap.size + 1) w.heap.size F n n (tab (n * n) fun t => GfM.half n M (t / n) (t % n))) := by
  have hnot : ∀ (x : Bool) (w : World), (Op.unary .not (.bool x)).run Tryz.prog w = .ok (.bool (!x)) w := fun _ _ => rfl
  have s1 := hm.f
  have s2 := hm.rows
  have s3 := hm.cols
  have HM := hid hm
  have HF := hid hf
  have hn := hm.r32
  have hn1 := hm.r1
  clear hm hf
  go_enter Tryz.func54, Tryz.ntmps54
  go_wp2_with fail
  go_quiet (fail)
  obtain ⟨wa, WA⟩ : ∃ x, x = w.drewN nq := ⟨_, rfl⟩
  rw [← WA]
  have a1 : wa.cell? ⟨p, 0, none⟩ = some (.pointer (some ⟨F, 0, none⟩)) := by rw [WA]; exact s1
  have a2 : wa.cell? ⟨p, 1, none⟩ = some (.int .i64 n) := by rw [WA]; exact s2
  have a3 : wa.cell? ⟨p, 2, none⟩ = some (.int .i64 n) := by rw [WA]; exact s3
  have hsz : wa.heap.size = w.heap.size := by rw [WA]; rfl
  have hma : Mat wa p q F n n z := by rw [WA]; exact HM.out.drewN nq
  have hfa : Fld F wa := by rw [WA]; exact HF.out.drewN nq
  have hua : Up (One F) w wa := by rw [WA]; exact (Up.refl _ _).drewN nq
  have H := hid (blank_good F n n wa.drew hfa.lt hn1 hn hn1 hn)
  have HA := hid (And.intro hma (And.intro hfa hua))
  have SZ := hid hsz
  clear WA s1 s2 s3 hma hfa hua hsz
  go_wp2_with fail
  go_region_held3 (fun w' => w'.cell? ⟨p, 0, none⟩ = some (.pointer (some ⟨F, 0, none⟩)) ∧ w'.cell? ⟨p, 1, none⟩ = some (.int .i64 n) ∧ w'.cell? ⟨p, 2, none⟩ = some (.int .i64 n)) (first | exact ⟨by assumption, by assumption, by assumption⟩ | go_keep)
    ((go_at_call 47; (with_reducible refine H.out.mono ?_); rintro e w1 ⟨rfl, k1⟩; have b1 := (k1.up.cell (p := ⟨p, 0, none⟩) HA.out.1.pl id).trans a1; have b2 := (k1.up.cell (p := ⟨p, 1, none⟩) HA.out.1.pl id).trans a2; have b3 := (k1.up.cell (p := ⟨p, 2, none⟩) HA.out.1.pl id).trans a3; have K1 := hid k1; clear k1))
  have hW : Mat w1 p q F n n z ∧ Mat w1 (wa.heap.size + 1) wa.heap.size F n n (zer (n * n)) ∧ Fld F w1 ∧ Up (One F) w w1 ∧ p ≠ wa.heap.size ∧ q ≠ wa.heap.size := by
    have k1 := K1.out
    obtain ⟨h1, h3, h4⟩ := HA.out
    have e1 := h1.pl
    have e2 := h1.ql
    exact ⟨h1.drew.up k1.up id id, k1.mat, h3.drew.up (S := Nul) k1.up id, h4.drew.trans k1.up.nul, by omega, by omega⟩
  have HB := hid (beside_any p q F n z w1 hW.1)
  have HW := hid hW
  obtain ⟨p3, P3⟩ : ∃ x, Hid (x = wa.heap.size + 1) := ⟨_, rfl⟩
  obtain ⟨q3, Q3⟩ : ∃ x, Hid (x = wa.heap.size) := ⟨_, rfl⟩
  rw [← P3.out, ← Q3.out] at HW
  rw [← P3.out]
  clear hW b1 b2 b3 a1 a2 a3 H K1
  go_wp2_with fail
  refine HB.out.mono ?_
  rintro e w2 ⟨rfl, b0, L0, h0, h00⟩
  obtain ⟨gl, GL⟩ : ∃ x, Hid (x = w1.heap.size) := ⟨_, rfl⟩
  rw [← GL.out] at h0 ⊢
  have HE0 := hid (And.intro (h0.elim (F := F)) (And.intro (HW.out.2.2.1.up (S := Nul) h0.up id) h00))
  clear h0 h00 HB
  go_wp2_with fail
  go_loopw [42] (fun i wr => ∃ k : Nat, k ≤ n ∧ i = .int .i64 k ∧ ∃ b L M, GfM.run n (GfM.beside n (cz n z)) k = some M ∧ Elim w1 F gl n (2 * n) b L wr ∧ Fld F wr ∧ ∀ i j, i < n → j < 2 * n → celL L i j = M i j) (fun i _ => n - (intOf i).toNat)
  case atStart => exact ⟨0, by omega, rfl, b0, L0, _, rfl, HE0.out.1, HE0.out.2.1, fun i j hi hj => by unfold celL; rw [HE0.out.2.2 i hi]; exact tab_at _ _ _ hj⟩
  case round =>
    clear HE0
    obtain ⟨k, hk, rfl, b, L, M, hr, he, hf, hc⟩ := hrel
    by_cases hlt : k < n
    · have hpc : GfM.pivot n k (celL L) = GfM.pivot n k M := GfM.pivot_congr fun i hi => hc i k hi (by omega)
      cases hp : GfM.pivot n k M with
      | none =>
        have HS := hid (settle_none2 w1 p F gl n (2 * n) k b L wr he hf hlt (by omega) hn (hpc.trans hp))
        have hR : GfM.run n (GfM.beside n (cz n z)) n = none := by
          have := run_stuck hr hp (n - (k + 1))
          rwa [show k + 1 + (n - (k + 1)) = n by omega] at this
        have HR := hid hR
        clear he hf hc hr hp hpc hR
        go_wp2_with fail
        refine HS.out.mono ?_
        rintro e w3 ⟨rfl, u3, f3⟩
        have H3 := hid (And.intro (HW.out.2.2.2.1.trans u3) f3)
        clear u3 f3
        go_wp2
        go_ret2
        exact ⟨H3.out.1, H3.out.2, .inl ⟨HR.out, rfl⟩⟩
      | some p' =>
        obtain ⟨p1, p2, p3'⟩ := GfM.pivot_some hp
        obtain ⟨t, rfl⟩ : ∃ t, p' = k + t := ⟨p' - k, by omega⟩
        have HS := hid (settle_some w1 p q F gl n (2 * n) k t n n z b L wr HW.out.1 HW.out.2.2.1.lt hf he hlt (by omega) hn (by omega) (hpc.trans hp))
        have HR := hid (run_next hr hp)
        have HC := hid fun i j hi hj => stl_congr (at_ := k) (p := k + t) hc hlt p2 (by omega) i j hi hj
        clear he hf hc hr hp hpc p1 p2 p3'
        go_wp2_with fail
        refine HS.out.mono ?_
        rintro e w3 ⟨rfl, b', L', e3, f3, c3⟩
        have H3 := hid (And.intro e3 (And.intro f3 c3))
        clear e3 f3 c3
        go_wp2
        go_roundw
        case rel => exact ⟨k + 1, by omega, by go_num, b', L', _, HR.out, H3.out.1, .inr H3.out.2.1, fun i j hi hj => (H3.out.2.2 i j hi hj).trans (HC.out i j hi hj)⟩
        case measure => simp [intOf]; omega
    · obtain rfl : n = k := by omega
      have HR := hid hr
      have HE := hid (And.intro he (And.intro hf hc))
      clear he hf hr hc
      have hm3 : Mat wr p3 q3 F n n (zer (n * n)) := HW.out.2.1.up HE.out.1.up HW.out.2.1.pF HW.out.2.1.qF
      have HM3 := hid hm3
      have hgq : gl ≠ q3 := by have := GL.out; have := HW.out.2.1.ql; omega
      have hgp3 : p3 ≠ q3 := HW.out.2.1.pq
      have hmw : Mat wr p q F n n z := HW.out.1.up HE.out.1.up HW.out.1.pF HW.out.1.qF
      have HMW := hid hmw
      obtain ⟨we, WE⟩ : ∃ x, x = wr := ⟨_, rfl⟩
      rw [← WE] at HE HM3 HMW
      clear hm3 hmw
      have HS : Hid (Up (One q3) we wr) := by show Up (One q3) we wr; rw [WE]; exact Up.refl _ _
      rw [WE] at HM3
      clear WE
      go_wp2
      go_loopw [53] (fun i wr => ∃ k : Nat, k ≤ n ∧ i = .int .i64 k ∧ ∃ y, Mat wr p3 q3 F n n y ∧ (∀ t, t < k * n → y.getD t 0 = GfM.half n M (t / n) (t % n)) ∧ Up (One q3) we wr) (fun i _ => n - (intOf i).toNat)
      case atStart => exact ⟨0, by omega, rfl, _, HM3.out, fun t ht => by rw [Nat.zero_mul] at ht; exact absurd ht (Nat.not_lt_zero _), HS.out⟩
      case round =>
        clear HS HM3
        obtain ⟨k, hk, rfl, y, hy, hyt, hyu⟩ := hrel
        by_cases hlt : k < n
        · have hel := HE.out.1
          have hcl := (hyu.cell (p := ⟨gl, k, none⟩) hel.gll hgq).trans (hel.lin k hlt)
          have hbk := (hel.rows k hlt).up hyu (fun e => by have := (hel.own k hlt).1; have := HW.out.2.1.ql; unfold One at e; omega)
          have hlen := hel.lens k hlt
          have hmwr := HMW.out.up hyu HW.out.2.2.2.2.1 HW.out.2.2.2.2.2
          have m2 := hmwr.cols
          have HMW2 := hid hmwr
          have hbq : b k ≠ q3 := by have := (hel.own k hlt).1; have := HW.out.2.1.ql; omega
          have HM1 : Hid (Mat wr.drew p3 q3 F n n y) := hy.drew
          have HYT := hid hyt
          have HYU := hid hyu
          have HBK : Hid (Blk wr.drew (b k) (L k)) := hbk.drew
          have HLN := hid hlen
          have hyl := hy.len
          have hkn : k * n + n ≤ y.length := by
            have := Nat.mul_le_mul_right n (show k + 1 ≤ n from hlt)
            rw [hyl]
            rw [Nat.add_mul] at this
            omega
          have HKN := hid hkn
          have hpq : p ≠ q3 := HW.out.2.2.2.2.1
          have HCC := hid HE.out.2.2
          have i1 : (0 : Int) ≤ (n : Int) := by omega
          obtain ⟨mm, MM⟩ : ∃ x, Hid (2 * n = x) := ⟨_, rfl⟩
          rw [MM.out] at hcl
          have i2 : (n : Int) ≤ (mm : Int) := by have := MM.out; omega
          have i3 : mm ≠ n := by have := MM.out; omega
          have i4 : n < mm := by have := MM.out; omega
          obtain ⟨bk, BK⟩ : ∃ x, Hid (b k = x) := ⟨_, rfl⟩
          rw [BK.out] at hcl HBK hbq
          clear hel hbk hlen hmwr hy hyt hyu hkn hyl
          go_wp2_with fail
          go_region_held3 (fun w' => w'.cell? ⟨p, 2, none⟩ = some (.int .i64 n)) (first | assumption | go_keep)
            ((first
              | (go_at_call 48; (with_reducible refine (row_any p3 q3 F n n k y _ HM1.out hlt).mono ?_); rintro e wb ⟨rfl, m1, E1⟩; have D1 : Hid (Mat wb p3 q3 F n n y ∧ Blk wb bk (L k) ∧ Up (One q3) wr wb) := (by show Mat wb p3 q3 F n n y ∧ _; rw [E1]; exact ⟨HM1.out.drewN m1, HBK.out.drewN m1, ((Up.refl _ wr).drew).drewN m1⟩); have d1 : wb.cell? ⟨p, 2, none⟩ = some (.int .i64 n) := (by rw [E1]; exact m2); clear E1)
              | ((with_reducible refine step_copy_bytes rfl (.tmp 60) (.tmp 66) rfl q3 (k * n) (mm - n) n _ bk n _ y (((L k).drop n).take (mm - n)) D1.out.1.blk (D1.out.2.1.row n (mm - n) (by rw [HLN.out, MM.out]; omega)) (by simp; have := HLN.out; have := MM.out; omega) (by have := MM.out; omega) (by have := HKN.out; have := MM.out; omega) rfl rfl ?_); intro wc H1 H2; have d2 := (H2.out.1.cell (p := ⟨p, 2, none⟩) (lt_of_cell d1) hpq).trans d1)))
          go_wp2
          have hsl : (((L k).drop n).take (mm - n)).length = n := by simp; have := HLN.out; have := MM.out; omega
          have hfin : Mat wc p3 q3 F n n (over y (k * n) (((L k).drop n).take (mm - n))) := D1.out.1.copied H1.out (over_length (by rw [hsl]; exact HKN.out)) H2.out.1
          have htold := row_told (f := GfM.half n M) (by omega) hsl HKN.out HYT.out fun j hj => by
            have h1 := HCC.out k (n + j) hlt (by omega)
            unfold celL at h1
            unfold GfM.half
            rw [← h1, rowz_at (by have := MM.out; omega)]
          have HFI := hid (And.intro hfin (And.intro htold ((HYU.out.trans D1.out.2.2).trans H2.out.1)))
          clear hfin htold hsl
          go_roundw
          case rel => exact ⟨k + 1, by omega, by go_num, _, HFI.out⟩
          case measure => simp [intOf]; omega
        · obtain rfl : n = k := by omega
          have HY := hid (And.intro hy (And.intro hyt hyu))
          clear hy hyt hyu
          go_wp2
          go_ret2
          have e1 : p3 = w.heap.size + 1 := by have := P3.out; have := SZ.out; omega
          have e2 : q3 = w.heap.size := by have := Q3.out; have := SZ.out; omega
          subst e1 e2
          obtain ⟨y1, y2, y3⟩ := HY.out
          obtain ⟨_, _, _, u1, _⟩ := HW.out
          have u2 := u1.trans HE.out.1.up
          refine ⟨⟨y3.os.trans u2.os, y3.tape.trans u2.tape, y3.output.trans u2.output, Nat.le_trans u2.size y3.size, fun j hj hs => (y3.block j (Nat.lt_of_lt_of_le hj u2.size) (by unfold One; omega)).trans (u2.block j hj hs)⟩,
            HE.out.2.1.up (S := One w.heap.size) y3 (fun e => y1.qF e.symm), .inr ⟨M, HR.out, rfl, ?_⟩⟩
          rw [← eq_tab y1.len y2]
          exact y1

/-- A row of ints. -/
def RowI (w : World) (b o n : Nat) (f : Nat → Int) : Prop := ∀ i, i < n → w.cell? ⟨b, o + i, none⟩ = some (.int .i64 (f i))
theorem RowI.up {S : Nat → Prop} {w w' : World} {b o n : Nat} {f : Nat → Int} (h : RowI w b o n f) (u : Up S w w') (hb : b < w.heap.size) (hs : ¬ S b) : RowI w' b o n f :=
  fun i hi => (u.cell (p := ⟨b, o + i, none⟩) hb hs).trans (h i hi)
theorem none_yes (p A r : Nat) (x : Int) (w : World) (hA : w.cell? ⟨A, 0, none⟩ = some (.pointer (some ⟨p, 0, none⟩))) (hr : w.cell? ⟨p, 1, none⟩ = some (.int .i64 r)) (hx : x < 0 ∨ (r : Int) ≤ x) :
    Calls Tryz.prog 69 #[.int .i64 x, .pointer (some ⟨A, 0, none⟩)] w fun e w' => e = .returned (.bool true) ∧ w' = w := by
  by_cases h0 : x < 0
  · clear hx
    go_enter Tryz.func69, Tryz.ntmps69
    go_wp2
    go_ret
    exact ⟨rfl, rfl⟩
  · have h1 : (r : Int) ≤ x := by omega
    clear hx
    go_enter Tryz.func69, Tryz.ntmps69
    go_wp2
    go_ret
    exact ⟨rfl, rfl⟩
theorem none_no (p A r : Nat) (x : Int) (w : World) (hA : w.cell? ⟨A, 0, none⟩ = some (.pointer (some ⟨p, 0, none⟩))) (hr : w.cell? ⟨p, 1, none⟩ = some (.int .i64 r)) (h0 : 0 ≤ x) (h1 : x < r) :
    Calls Tryz.prog 69 #[.int .i64 x, .pointer (some ⟨A, 0, none⟩)] w fun e w' => e = .returned (.bool false) ∧ w' = w := by
  go_enter Tryz.func69, Tryz.ntmps69
  go_wp2
  go_ret
  have e : (decide (x < 0) || decide ((r : Int) ≤ x)) = false := by simp; omega
  exact ⟨congrArg (fun b => Ending.returned (.bool b)) e, rfl⟩
/-- A row that is none. -/
def Bad (r : Nat) (x : Int) : Prop := x < 0 ∨ (r : Int) ≤ x
set_option maxHeartbeats 400000 in
theorem indexI_any (p A r b o n cap : Nat) (f : Nat → Int) (w : World) (hA : w.cell? ⟨A, 0, none⟩ = some (.pointer (some ⟨p, 0, none⟩))) (hr : w.cell? ⟨p, 1, none⟩ = some (.int .i64 r)) (hf : RowI w b o n f) (hn : n ≤ 9223372036854775807) :
    Calls Tryz.prog 79 #[.slice (some ⟨b, o, none⟩) n cap, .func (.func 69) #[] #[.pointer (some ⟨A, 0, none⟩)]] w
      fun e w' => (∃ x : Int, e = .returned (.int .i64 x) ∧ ((0 ≤ x ∧ ∃ i, i < n ∧ Bad r (f i)) ∨ (x < 0 ∧ ∀ i, i < n → ¬ Bad r (f i)))) ∧ w' = w := by
  have HF := hid hf
  clear hf
  go_enter Tryz.func79, Tryz.ntmps79
  go_wp2
  go_loopw [8] (fun i wr => ∃ k : Nat, k ≤ n ∧ i = .int .i64 k ∧ wr = w ∧ ∀ i, i < k → ¬ Bad r (f i)) (fun i _ => n - (intOf i).toNat)
  case atStart => exact ⟨0, by omega, rfl, rfl, fun _ h => absurd h (Nat.not_lt_zero _)⟩
  case round =>
    obtain ⟨k, hk, rfl, rfl, hg⟩ := hrel
    have HG := hid hg
    clear hg
    by_cases hlt : k < n
    · have hc := HF.out k hlt
      obtain ⟨x, X⟩ : ∃ x, Hid (f k = x) := ⟨_, rfl⟩
      rw [X.out] at hc
      by_cases hb : x < 0 ∨ (r : Int) ≤ x
      · have HB := hid hb
        clear hb
        go_wp2_with ((go_at_call 69; (with_reducible refine (none_yes p A r x _ hA hr HB.out).mono ?_); rintro e w1 ⟨rfl, rfl⟩))
        go_ret
        exact ⟨⟨_, rfl, .inl ⟨by omega, k, hlt, by rw [X.out]; exact HB.out⟩⟩, rfl⟩
      · have h0 : 0 ≤ x := by omega
        have h1 : x < r := by omega
        clear hb
        go_wp2_with ((go_at_call 69; (with_reducible refine (none_no p A r x _ hA hr h0 h1).mono ?_); rintro e w1 ⟨rfl, rfl⟩))
        go_roundw
        case rel => exact ⟨k + 1, by omega, by go_num, trivial, fun i hi => by
          by_cases e : i = k
          · rw [e, X.out]; unfold Bad; omega
          · exact HG.out i (by omega)⟩
        case measure => simp [intOf]; omega
    · obtain rfl : n = k := by omega
      go_wp2
      go_ret
      exact ⟨⟨_, rfl, .inr ⟨by omega, HG.out⟩⟩, rfl⟩
theorem contains_any (p A r b o n cap : Nat) (f : Nat → Int) (w : World) (hA : w.cell? ⟨A, 0, none⟩ = some (.pointer (some ⟨p, 0, none⟩))) (hr : w.cell? ⟨p, 1, none⟩ = some (.int .i64 r)) (hf : RowI w b o n f) (hn : n ≤ 9223372036854775807) :
    Calls Tryz.prog 70 #[.slice (some ⟨b, o, none⟩) n cap, .func (.func 69) #[] #[.pointer (some ⟨A, 0, none⟩)]] w
      fun e w' => ((e = .returned (.bool true) ∧ ∃ i, i < n ∧ Bad r (f i)) ∨ (e = .returned (.bool false) ∧ ∀ i, i < n → ¬ Bad r (f i))) ∧ w' = w := by
  have H := hid (indexI_any p A r b o n cap f w hA hr hf hn)
  clear hA hr hf hn
  go_enter Tryz.func70, Tryz.ntmps70
  go_wp2_with fail
  refine H.out.mono ?_
  rintro e w1 ⟨⟨x, rfl, ⟨h0, hb⟩ | ⟨h0, hb⟩⟩, rfl⟩
  · have HB := hid hb
    clear hb
    go_wp2
    go_ret
    exact ⟨.inl ⟨by simp, HB.out⟩, rfl⟩
  · have HB := hid hb
    have h1 : ¬ 0 ≤ x := by omega
    clear hb
    go_wp2
    go_ret
    exact ⟨.inr ⟨by simp [h1], HB.out⟩, rfl⟩
/-- What is picked. -/
def pickZ (n c : Nat) (z : List Nat) (f : Nat → Nat) : List Nat := tab (n * c) fun t => z.getD (f (t / c) * c + t % c) 0
set_option maxRecDepth 100000 in
set_option maxHeartbeats 1600000 in
theorem pick_good (p q F r c b o n cap : Nat) (z : List Nat) (f : Nat → Nat) (w : World) (hm : Mat w p q F r c z) (hF : F < w.heap.size) (hf : RowI w b o n (fun i => (f i : Int))) (hb : b < w.heap.size) (hg : ∀ i, i < n → f i < r) (n1 : 1 ≤ n) (n2 : n ≤ 32) :
    Calls Tryz.prog 53 #[.pointer (some ⟨p, 0, none⟩), .slice (some ⟨b, o, none⟩) n cap] w
      fun e w' => ∃ p3 q3, e = .returned (.tuple #[.pointer (some ⟨p3, 0, none⟩), .int .i64 0]) ∧ Mat w' p3 q3 F n c (pickZ n c z f) ∧ Up Nul w w' ∧ w.heap.size ≤ p3 ∧ w.heap.size ≤ q3 := by
  have hmf : ∀ (fn : Fn) (first cap : Array Value) (w : World), (Instr.makeFunc fn first cap).run Tryz.prog w = .ok (.func fn first cap) w := fun _ _ _ _ => rfl
  have hA : (w.alloc (.cells #[.pointer (some ⟨p, 0, none⟩)] 63)).cell? ⟨w.heap.size, 0, none⟩ = some (.pointer (some ⟨p, 0, none⟩)) := World.cell?_alloc_new w _ _ 0
  have hu : Up Nul w (w.alloc (.cells #[.pointer (some ⟨p, 0, none⟩)] 63)) := (Up.refl _ _).alloc _
  have hm1 := hm.alloc (.cells #[.pointer (some ⟨p, 0, none⟩)] 63)
  have hf1 := hf.up hu hb id
  have H := hid (contains_any p w.heap.size r b o n cap (fun i => (f i : Int)) _ hA hm1.rows hf1 (by omega))
  have HX := hid (And.intro hm1 (And.intro hf1 hu))
  have HF : Hid (F < (w.alloc (.cells #[.pointer (some ⟨p, 0, none⟩)] 63)).heap.size ∧ b < (w.alloc (.cells #[.pointer (some ⟨p, 0, none⟩)] 63)).heap.size ∧ w.heap.size < (w.alloc (.cells #[.pointer (some ⟨p, 0, none⟩)] 63)).heap.size) := by
    show _ ∧ _ ∧ _
    simp
    omega
  have HG := hid hg
  have HA := hid hA
  clear hm hF hf hb hg hm1 hf1 hu hA
  go_enter Tryz.func53, Tryz.ntmps53
  go_wp2_with fail
  refine H.out.mono ?_
  rintro e w1 ⟨⟨rfl, i, hi, hbad⟩ | ⟨rfl, _⟩, rfl⟩
  · have := HG.out i hi
    unfold Bad at hbad
    omega
  generalize w.alloc (.cells #[.pointer (some ⟨p, 0, none⟩)] 63) = wa at *
  have hAA : wa.cell? ⟨w.heap.size, 0, none⟩ = some (.pointer (some ⟨p, 0, none⟩)) := HA.out
  have a1 := HX.out.1.f
  have a2 := HX.out.1.cols
  have HB := hid (blank_good F n c wa.drew HF.out.1 n1 n2 HX.out.1.c1 HX.out.1.c32)
  have AW := hid HF.out.2.2
  obtain ⟨A, EA⟩ : ∃ x, Hid (x = w.heap.size) := ⟨_, rfl⟩
  rw [← EA.out] at hAA AW ⊢
  clear H
  go_wp2_with fail
  go_region_held3 (fun w' => w'.cell? ⟨A, 0, none⟩ = some (.pointer (some ⟨p, 0, none⟩)) ∧ w'.cell? ⟨p, 0, none⟩ = some (.pointer (some ⟨F, 0, none⟩)) ∧ w'.cell? ⟨p, 2, none⟩ = some (.int .i64 c)) (first | exact ⟨by assumption, by assumption, by assumption⟩ | go_keep)
    ((go_at_call 47; (with_reducible refine HB.out.mono ?_); rintro e w1 ⟨rfl, k1⟩; have b0 := (k1.up.cell (p := ⟨A, 0, none⟩) AW.out id).trans hAA; have b1 := (k1.up.cell (p := ⟨p, 0, none⟩) HX.out.1.pl id).trans a1; have b2 := (k1.up.cell (p := ⟨p, 2, none⟩) HX.out.1.pl id).trans a2; have K1 := hid k1; clear k1))
  have hM3 : Mat w1 (wa.heap.size + 1) wa.heap.size F n c (zer (n * c)) := K1.out.mat
  have hX1 : Mat w1 p q F r c z ∧ RowI w1 b o n (fun i => (f i : Int)) ∧ Up Nul w w1 ∧ A < wa.heap.size ∧ b < wa.heap.size ∧ p < wa.heap.size ∧ q < wa.heap.size := by
    obtain ⟨h1, h2, h3⟩ := HX.out
    have k1 := K1.out
    exact ⟨h1.drew.up k1.up id id, h2.up (w := wa.drew) k1.up HF.out.2.1 id, h3.drew.trans k1.up, by rw [EA.out]; exact HF.out.2.2, HF.out.2.1, h1.pl, h1.ql⟩
  have HX1 := hid hX1
  have B0 := hid b0
  have HBS : Hid (b < w1.heap.size) := by
    show _ < _
    have h1 := K1.out.size
    have h2 : wa.drew.heap.size = wa.heap.size := rfl
    have h3 := HF.out.2.1
    omega
  obtain ⟨p3, P3⟩ : ∃ x, Hid (x = wa.heap.size + 1) := ⟨_, rfl⟩
  obtain ⟨q3, Q3⟩ : ∃ x, Hid (x = wa.heap.size) := ⟨_, rfl⟩
  rw [← P3.out, ← Q3.out] at hM3
  rw [← P3.out]
  have HM3 := hid hM3
  clear hM3 hX1 b0 b1 b2 a1 a2 hAA HB K1
  go_wp2
  go_loopw [34] (fun i wr => ∃ k : Nat, k ≤ n ∧ i = .int .i64 k ∧ ∃ y, Mat wr p3 q3 F n c y ∧ (∀ t, t < k * c → y.getD t 0 = (fun i j => z.getD (f i * c + j) 0) (t / c) (t % c)) ∧ Up (One q3) w1 wr) (fun i _ => n - (intOf i).toNat)
  case atStart => exact ⟨0, by omega, rfl, _, HM3.out, fun t ht => by rw [Nat.zero_mul] at ht; exact absurd ht (Nat.not_lt_zero _), Up.refl _ _⟩
  case round =>
    clear HM3
    obtain ⟨k, hk, rfl, y, hy, hyt, hyu⟩ := hrel
    have eq3 := Q3.out
    have hAq : A ≠ q3 := by have := HX1.out.2.2.2.1; omega
    have hbq : b ≠ q3 := by have := HX1.out.2.2.2.2.1; omega
    have hpq : p ≠ q3 := by have := HX1.out.2.2.2.2.2.1; omega
    have hqq : q ≠ q3 := by have := HX1.out.2.2.2.2.2.2; omega
    clear eq3
    by_cases hlt : k < n
    · have hbs : b < w1.heap.size := HBS.out
      have hel := (HX1.out.2.1.up hyu hbs hbq) k hlt
      have hAr := (hyu.cell (p := ⟨A, 0, none⟩) (lt_of_cell B0.out) hAq).trans B0.out
      obtain ⟨fk, FK⟩ : ∃ x, Hid (f k = x) := ⟨_, rfl⟩
      have hel2 : wr.cell? ⟨b, o + k, none⟩ = some (.int .i64 (fk : Int)) := by rw [← FK.out]; exact hel
      have hfr : fk < r := by rw [← FK.out]; exact HG.out k hlt
      have hmr := HX1.out.1.up hyu hpq hqq
      have HM1 : Hid (Mat wr.drew p3 q3 F n c y) := hy.drew
      have HMS : Hid (Mat wr.drew p q F r c z) := hmr.drew
      have HYT := hid hyt
      have HYU := hid hyu
      have hkn : k * c + c ≤ y.length := by
        have := Nat.mul_le_mul_right c (show k + 1 ≤ n from hlt)
        rw [hy.len]
        rw [Nat.add_mul] at this
        omega
      have hzl : fk * c + c ≤ z.length := by
        have := Nat.mul_le_mul_right c (show fk + 1 ≤ r from hfr)
        rw [hmr.len]
        rw [Nat.add_mul] at this
        omega
      have HKN := hid hkn
      have HZL := hid hzl
      clear hy hyt hyu hkn hzl hmr hel
      go_wp2_with fail
      go_region_held3 (fun w' => w'.cell? ⟨A, 0, none⟩ = some (.pointer (some ⟨p, 0, none⟩))) (first | assumption | go_keep)
        ((first
          | (go_at_call 48; (with_reducible refine (row_any p q F r c fk z _ D1.out.2.1 hfr).mono ?_); rintro e wc ⟨rfl, m2, E2⟩; have D2 : Hid (Mat wc p3 q3 F n c y ∧ Mat wc p q F r c z ∧ Up (One q3) wr wc) := (by show Mat wc p3 q3 F n c y ∧ _; rw [E2]; exact ⟨D1.out.1.drewN m2, D1.out.2.1.drewN m2, D1.out.2.2.drewN m2⟩); have d2 : wc.cell? ⟨A, 0, none⟩ = some (.pointer (some ⟨p, 0, none⟩)) := (by rw [E2]; exact d1); clear E2)
          | (go_at_call 48; (with_reducible refine (row_any p3 q3 F n c k y _ HM1.out hlt).mono ?_); rintro e wb ⟨rfl, m1, E1⟩; have D1 : Hid (Mat wb p3 q3 F n c y ∧ Mat wb p q F r c z ∧ Up (One q3) wr wb) := (by show Mat wb p3 q3 F n c y ∧ _; rw [E1]; exact ⟨HM1.out.drewN m1, HMS.out.drewN m1, ((Up.refl _ wr).drew).drewN m1⟩); have d1 : wb.cell? ⟨A, 0, none⟩ = some (.pointer (some ⟨p, 0, none⟩)) := (by rw [E1]; exact hAr); clear E1)
          | ((with_reducible refine step_copy_bytes rfl (.tmp 41) (.tmp 44) rfl q3 (k * c) c c _ q (fk * c) _ y ((z.drop (fk * c)).take c) D2.out.1.blk (D2.out.2.1.blk.row (fk * c) c HZL.out) (rowz_length HZL.out) (Nat.le_refl _) HKN.out rfl rfl ?_); intro wd H1 H2; have d3 := (H2.out.1.cell (p := ⟨A, 0, none⟩) (lt_of_cell d2) hAq).trans d2)))
      go_wp2
      have hfin : Mat wd p3 q3 F n c (over y (k * c) ((z.drop (fk * c)).take c)) := D2.out.1.copied H1.out (over_length (by rw [rowz_length HZL.out]; exact HKN.out)) H2.out.1
      have htold := row_told (f := fun i j => z.getD (f i * c + j) 0) HX1.out.1.c1 (rowz_length HZL.out) HKN.out HYT.out fun j hj => by
        show _ = z.getD (f k * c + j) 0
        rw [FK.out, rowz_at hj]
      have HFI := hid (And.intro hfin (And.intro htold ((HYU.out.trans D2.out.2.2).trans H2.out.1)))
      clear hfin htold
      go_roundw
      case rel => exact ⟨k + 1, by omega, by go_num, _, HFI.out⟩
      case measure => simp [intOf]; omega
    · obtain rfl : n = k := by omega
      have HY := hid (And.intro hy (And.intro hyt hyu))
      clear hy hyt hyu
      go_wp2
      go_ret2
      obtain ⟨y1, y2, y3⟩ := HY.out
      have hu := HX1.out.2.2.1
      have hA := EA.out
      have e1 := P3.out
      have e2 := Q3.out
      have hAw := HX1.out.2.2.2.1
      have hU : Up Nul w wr := ⟨y3.os.trans hu.os, y3.tape.trans hu.tape, y3.output.trans hu.output, Nat.le_trans hu.size y3.size, fun j hj hs => (y3.block j (Nat.lt_of_lt_of_le hj hu.size) (by unfold One; omega)).trans (hu.block j hj hs)⟩
      have hM : Mat wr p3 q3 F n c (pickZ n c z f) := by
        have := eq_tab y1.len y2
        unfold pickZ
        rw [← this]
        exact y1
      have h3 : w.heap.size ≤ p3 := by omega
      have h4 : w.heap.size ≤ q3 := by omega
      first | exact ⟨p3, q3, rfl, hM, hU, h3, h4⟩ | exact ⟨p3, rfl, q3, hM, hU, h3, h4⟩ | exact ⟨p3, rfl, ⟨q3, hM, hU, h4⟩, h3⟩

/-- A document's matrix in block M. -/
structure St (w : World) (M r c : Nat) (v : Value) : Prop where
  c0 : w.cell? ⟨M, 0, none⟩ = some (.int .i64 r)
  c1 : w.cell? ⟨M, 1, none⟩ = some (.int .i64 c)
  c2 : w.cell? ⟨M, 2, none⟩ = some v
  fr : ∀ j, w.frozen? ⟨M, j, none⟩ = false
  lt : M < w.heap.size
theorem St.up {S : Nat → Prop} {w w' : World} {M r c : Nat} {v : Value} (h : St w M r c v) (u : Up S w w') (hs : ¬ S M) : St w' M r c v :=
  have hc : ∀ j, w'.cell? ⟨M, j, none⟩ = w.cell? ⟨M, j, none⟩ := fun j => u.cell (p := ⟨M, j, none⟩) h.lt hs
  ⟨(hc 0).trans h.c0, (hc 1).trans h.c1, (hc 2).trans h.c2, fun j => (u.froz (p := ⟨M, j, none⟩) h.lt hs).trans (h.fr j), Nat.lt_of_lt_of_le h.lt u.size⟩
theorem St.alloc {w : World} {M r c : Nat} {v : Value} (h : St w M r c v) (o : Obj) : St (w.alloc o) M r c v := h.up ((Up.refl Nul w).alloc o) id
theorem St.drewN {w : World} {M r c : Nat} {v : Value} (h : St w M r c v) (n : Nat) : St (w.drewN n) M r c v := ⟨h.c0, h.c1, h.c2, h.fr, h.lt⟩
theorem St.set2 {w : World} {M r c : Nat} {v : Value} (h : St w M r c v) (v' : Value) : St (w.setCell ⟨M, 2, none⟩ v') M r c v' :=
  ⟨by rw [World.cell?_setCell_other _ _ _ _ (by simp)]; exact h.c0, by rw [World.cell?_setCell_other _ _ _ _ (by simp)]; exact h.c1, World.cell?_setCell_same _ _ _ h.c2, fun j => by rw [World.frozen?_setCell]; exact h.fr j, by simpa using h.lt⟩
theorem St.other {w : World} {M r c : Nat} {v : Value} (h : St w M r c v) {a : Addr} (ha : M ≠ a.block) (u : Value) : St (w.setCell a u) M r c v :=
  have hh : (w.setCell a u).heap[M]? = w.heap[M]? := Below.heap_setCell _ _ _ _ ha
  have hc : ∀ j, (w.setCell a u).cell? ⟨M, j, none⟩ = w.cell? ⟨M, j, none⟩ := fun j => World.cell?_of_block (w := w) (a := ⟨M, j, none⟩) hh
  ⟨(hc 0).trans h.c0, (hc 1).trans h.c1, (hc 2).trans h.c2, fun j => by rw [World.frozen?_setCell]; exact h.fr j, by simpa using h.lt⟩
theorem St.grown {w w' : World} {M r c : Nat} {v : Value} {row : Option Nat} (h : St w M r c v) (hg : w.grownBy w' row) (hr : row ≠ some M) : St w' M r c v :=
  have hh : w'.heap[M]? = w.heap[M]? := hg.block M h.lt (fun e => hr e.symm)
  have hc : ∀ j, w'.cell? ⟨M, j, none⟩ = w.cell? ⟨M, j, none⟩ := fun j => World.cell?_of_block (w := w) (a := ⟨M, j, none⟩) hh
  ⟨(hc 0).trans h.c0, (hc 1).trans h.c1, (hc 2).trans h.c2, fun j => (World.frozen?_of_block (w := w) (a := ⟨M, j, none⟩) hh).trans (h.fr j), Nat.lt_of_lt_of_le h.lt hg.size⟩
theorem St.new (w : World) (r c : Nat) (v : Value) (t : TypeId) : St (w.alloc (.cells #[.int .i64 r, .int .i64 c, v] t)) w.heap.size r c v :=
  have hc := fun j => World.cell?_alloc_new w #[.int .i64 r, .int .i64 c, v] t j
  ⟨hc 0, hc 1, hc 2, fun j => World.frozen?_alloc_new w _ _ j, by simp⟩
/-- A slice of bytes that came in, as numbers. -/
structure SlN (w : World) (a : Option Addr) (n : Nat) (z : List Nat) : Prop where
  len : z.length = n
  row : n = 0 ∨ ∃ b o, a = some ⟨b, o, none⟩ ∧ b < w.heap.size ∧ Row w b o z
  le : n ≤ 9223372036854775807
theorem SlN.of {w : World} {a : Option Addr} {len cap : Nat} {zs : List Int} (h : CameIn w a len cap zs) : ∃ z, SlN w a len z := by
  rcases came_in h with rfl | ⟨b, o, z, rfl, rfl, r, hb, hm⟩
  · exact ⟨[], rfl, .inl rfl, by omega⟩
  · exact ⟨z, rfl, .inr ⟨b, o, rfl, hb, r⟩, hm⟩
theorem SlN.up {S : Nat → Prop} {w w' : World} {a : Option Addr} {n : Nat} {z : List Nat} (h : SlN w a n z) (u : Up S w w') (hs : ∀ k, k < w.heap.size → ¬ S k) : SlN w' a n z :=
  ⟨h.len, by
    rcases h.row with e | ⟨b, o, e, hb, r⟩
    · exact .inl e
    · exact .inr ⟨b, o, e, Nat.lt_of_lt_of_le hb u.size, r.up u hb (hs b hb)⟩, h.le⟩
/-- A document's matrix that is being filled: block P for the answer, block M for the matrix. -/
structure Filling (w : World) (P M r c : Nat) (zs : List Nat) (wr : World) (v : Value) : Prop where
  own : OwnB (M + 1) wr v zs
  st : St wr M r c v
  st0 : wr.heap[P]? = some (.cells #[.int .i64 0, .int .i64 0, .slice none 0 0] 100 (0, 0))
  up : Up Nul w wr
  PM : P < M
  Pw : w.heap.size ≤ P
theorem Filling.start (w : World) (r c : Nat) : Filling w w.heap.size (w.heap.size + 1) r c [] ((w.alloc (.cells #[.int .i64 0, .int .i64 0, .slice none 0 0] 100)).alloc (.cells #[.int .i64 r, .int .i64 c, .slice none 0 0] 100)) (.slice none 0 0) := by
  have h := St.new (w.alloc (.cells #[.int .i64 0, .int .i64 0, .slice none 0 0] 100)) r c (.slice none 0 0) 100
  have e : (w.alloc (.cells #[.int .i64 0, .int .i64 0, .slice none 0 0] 100)).heap.size = w.heap.size + 1 := by simp
  rw [e] at h
  exact ⟨OwnB.nil _ _, h, (Below.heap_alloc _ _ _ (by rw [e]; omega)).trans (heap_alloc_new _ _), ((Up.refl _ _).alloc _).alloc _, by omega, Nat.le_refl _⟩
theorem heap3 {w : World} {P : Nat} {x0 x1 x2 : Value} {t : TypeId} (h : w.heap[P]? = some (.cells #[x0, x1, x2] t (0, 0))) (y0 y1 y2 : Value) :
    (((w.setCell ⟨P, 0, none⟩ y0).setCell ⟨P, 1, none⟩ y1).setCell ⟨P, 2, none⟩ y2).heap[P]? = some (.cells #[y0, y1, y2] t (0, 0)) :=
  heap_set_same (heap_set_same (heap_set_same h 0 y0) 1 y1) 2 y2
theorem info_m3 : (Tryz.prog.info? 100).map (·.size) = some 3 := by kernel_rfl
/-- Behind 'm.Cells = append(m.Cells, y)'. -/
theorem Filling.next {w wr w2 : World} {P M r c y : Nat} {zs : List Nat} {v v2 : Value} {o : Obj} (h : Filling w P M r c zs wr v) (hown : OwnB (M + 1) w2 v2 (zs ++ [y])) (hg : (wr.alloc o).grownBy w2 v.ownBlock) : Filling w P M r c (zs ++ [y]) (w2.setCell ⟨M, 2, none⟩ v2) v2 := by
  have hb := h.own.base
  have hM := h.st.lt
  have hP := h.PM
  have hW := h.Pw
  have h0 := h.st0
  have s1 : St w2 M r c v := (h.st.alloc o).grown hg fun e => by have := hb M e; omega
  have s0 : w2.heap[P]? = _ := (hg.block P (by simp; omega) (fun e => by have := hb P e.symm; omega)).trans ((Below.heap_alloc _ _ _ (by omega)).trans h0)
  refine ⟨hown.up (S := One M) ((Up.refl _ _).setCell (p := ⟨M, 2, none⟩) (.inr (show One M M from rfl)) _) (fun k hk e => by unfold One at e; omega), s1.set2 v2, (Below.heap_setCell _ _ _ _ (by show P ≠ M; omega)).trans s0, ?_, hP, hW⟩
  exact ((h.up.alloc o).grown hg fun k hk => by have := hb k hk; omega).setCell (p := ⟨M, 2, none⟩) (.inl (by show _ ≤ M; omega)) _

/-- The cells of the unit, the first k rows of it told. -/
def unitK (n k t : Nat) : Nat := if t / n = t % n ∧ t / n < k then 1 else 0
def unitZ (n : Nat) : List Nat := tab (n * n) fun t => if t / n = t % n then 1 else 0
theorem unitK_zero {n : Nat} (t : Nat) : (zer (n * n)).getD t 0 = unitK n 0 t := by
  rw [zer_at, unitK, if_neg (by omega)]
theorem unitK_next {n k : Nat} {y : List Nat} (hk : k < n) (hl : y.length = n * n) (h : ∀ t, t < n * n → y.getD t 0 = unitK n k t) : ∀ t, t < n * n → (y.set (k * n + k) 1).getD t 0 = unitK n (k + 1) t := by
  have hlt : k * n + k < n * n := by
    have := Nat.mul_le_mul_right n (show k + 1 ≤ n from hk)
    rw [Nat.add_mul] at this
    omega
  intro t ht
  rw [getD_set _ _ _ _ (by rw [hl]; exact hlt)]
  by_cases e : t = k * n + k
  · rw [if_pos e, e]
    unfold unitK
    rw [Nat.mul_comm k n, Nat.mul_add_mod, Nat.mod_eq_of_lt hk, Nat.mul_add_div (by omega), Nat.div_eq_of_lt hk, Nat.add_zero, if_pos ⟨rfl, Nat.lt_succ_self k⟩]
  · rw [if_neg e, h t ht]
    unfold unitK
    by_cases h1 : t / n = t % n ∧ t / n < k
    · rw [if_pos h1, if_pos ⟨h1.1, Nat.lt_succ_of_lt h1.2⟩]
    · rw [if_neg h1, if_neg]
      intro h2
      rcases Nat.lt_or_ge (t / n) k with h3 | h3
      · exact h1 ⟨h2.1, h3⟩
      · have e1 : t / n = k := Nat.le_antisymm (Nat.le_of_lt_succ h2.2) h3
        have h0 := Nat.div_add_mod t n
        rw [← h2.1, e1, Nat.mul_comm] at h0
        exact e h0.symm
theorem unitK_done {n : Nat} {y : List Nat} (hl : y.length = n * n) (hn : 0 < n) (h : ∀ t, t < n * n → y.getD t 0 = unitK n n t) : y = unitZ n := by
  refine eq_tab hl fun t ht => ?_
  rw [h t ht, unitK]
  have : t / n < n := (Nat.div_lt_iff_lt_mul hn).2 ht
  by_cases e : t / n = t % n
  · rw [if_pos ⟨e, this⟩, if_pos e]
  · rw [if_neg (fun h => e h.1), if_neg e]
set_option maxHeartbeats 800000 in
theorem unit_good (F n : Nat) (w : World) (hF : F < w.heap.size) (n1 : 1 ≤ n) (n2 : n ≤ 32) :
    Calls Tryz.prog 25 #[.pointer (some ⟨F, 0, none⟩), .int .i64 n] w fun e w' => e = .returned (.tuple #[.pointer (some ⟨w.heap.size + 1, 0, none⟩), .int .i64 0]) ∧ Mat w' (w.heap.size + 1) w.heap.size F n n (unitZ n) ∧ Up Nul w w' := by
  have H := hid (blank_good F n n w hF n1 n2 n1 n2)
  obtain ⟨p3, P3⟩ : ∃ x, Hid (x = w.heap.size + 1) := ⟨_, rfl⟩
  obtain ⟨q3, Q3⟩ : ∃ x, Hid (x = w.heap.size) := ⟨_, rfl⟩
  rw [← P3.out, ← Q3.out]
  go_enter Tryz.func25, Tryz.ntmps25
  go_wp2_with fail
  refine H.out.mono ?_
  rintro e w1 ⟨rfl, k1⟩
  have hm := k1.mat
  rw [← P3.out, ← Q3.out] at hm
  rw [← P3.out]
  have HM := hid (And.intro hm k1.up)
  clear k1 hm H
  go_wp2
  go_loopw [20] (fun i wr => ∃ k : Nat, k ≤ n ∧ i = .int .i64 k ∧ ∃ y, Mat wr p3 q3 F n n y ∧ Up Nul w wr ∧ ∀ t, t < n * n → y.getD t 0 = unitK n k t) (fun i _ => n - (intOf i).toNat)
  case atStart => exact ⟨0, by omega, rfl, _, HM.out.1, HM.out.2, fun t _ => unitK_zero t⟩
  case round =>
    clear HM
    obtain ⟨k, hk, rfl, y, hy, hu, ht⟩ := hrel
    by_cases hlt : k < n
    · have HR := hid (row_any p3 q3 F n n k y wr hy hlt)
      have hc := hy.blk.cell _ (hy.at hlt hlt)
      have hf := hy.blk.froz (k * n + k)
      have HY := hid (And.intro hy (And.intro hu ht))
      generalize y.getD (k * n + k) 0 = u at hc
      clear hy hu ht
      go_wp2_with fail
      refine HR.out.mono ?_
      rintro e w2 ⟨rfl, m, rfl⟩
      go_wp2
      go_roundw
      case rel => exact ⟨k + 1, by omega, by go_num, _, (HY.out.1.drewN m).set (k * n + k) 1 (by omega), (HY.out.2.1.drewN m).setCell (p := ⟨q3, k * n + k, none⟩) (.inl (by have := Q3.out; show _ ≤ q3; omega)) _, unitK_next hlt HY.out.1.len HY.out.2.2⟩
      case measure => simp [intOf]; omega
    · obtain rfl : n = k := by omega
      have HY := hid (And.intro hy (And.intro hu ht))
      clear hy hu ht
      go_wp2
      go_ret2
      refine ⟨rfl, ?_, HY.out.2.1⟩
      rw [← unitK_done HY.out.1.len (by omega) HY.out.2.2]
      exact HY.out.1
/-- The document's unit that is being told. -/
structure RU (w : World) (P M g n nn : Nat) (y : List Nat) (wr : World) : Prop where
  blk : Blk wr g y
  st : St wr M n n (.slice (some ⟨g, 0, none⟩) nn nn)
  st0 : wr.heap[P]? = some (.cells #[.int .i64 0, .int .i64 0, .slice none 0 0] 100 (0, 0))
  up : Up Nul w wr
  Pw : w.heap.size ≤ P
  Pg : P < g
  PM : g < M
theorem RU.set {w wr : World} {P M g n nn : Nat} {y : List Nat} (h : RU w P M g n nn y wr) (i v : Nat) (hv : v < 256) : RU w P M g n nn (y.set i v) (wr.setCell ⟨g, i, none⟩ (.int .u8 v)) :=
  ⟨h.blk.set i v hv, h.st.other (a := ⟨g, i, none⟩) (by have := h.PM; show M ≠ g; omega) _, (Below.heap_setCell _ _ _ _ (by have := h.Pg; show P ≠ g; omega)).trans h.st0,
    h.up.setCell (p := ⟨g, i, none⟩) (.inl (by have := h.Pw; have := h.Pg; show _ ≤ g; omega)) _, h.Pw, h.Pg, h.PM⟩
end Go.Proofs.YtkenfabnbmkhbaaGreat
