/- Part 4 of what the walks rest on: MatTimes, MatInvert, MatPick, MatUnit, MatLaw, MatCauchy, CodeMath. -/
import Derived.Test.YtmaffnadmfphpaaGreatCB3
namespace Go.Proofs.YtmaffnadmfphpaaGreat
open Go.RowKit
set_option linter.unusedVariables false


theorem dotk_xs (z1 z2 : List Nat) (k : Nat) : dotk z1 z2 k = GfM.xs k fun s => GfM.mul (z1.getD s 0) (z2.getD s 0) := by
  induction k with
  | zero => rfl
  | succ k ih => rw [dotk, GfM.xs, ih]
/-- Dot over two rows of one length. -/
theorem dot_eq (B b1 o1 c1 b2 o2 c2 n : Nat) (z1 z2 : List Nat) (w : World) (hf : Fld B w) (r1 : Row w b1 o1 z1) (r2 : Row w b2 o2 z2) (n1 : b1 ≠ B) (n2 : b2 ≠ B) (l1 : z1.length = n) (l2 : z2.length = n) (hn : n ≤ 2000) :
    Calls Tryz.prog 82 #[.pointer (some ⟨B, 0, none⟩), .slice (some ⟨b1, o1, none⟩) n c1, .slice (some ⟨b2, o2, none⟩) n c2] w
      fun e w' => e = .returned (.int .u8 (dotk z1 z2 n)) ∧ Kept B w w' := by
  have := dot_rows B b1 o1 c1 b2 o2 c2 z1 z2 w hf r1 r2 n1 n2 (by omega) (by omega)
  rw [l1, l2, Nat.min_self] at this
  exact this
theorem rowz_length {z : List Nat} {o n : Nat} (h : o + n ≤ z.length) : ((z.drop o).take n).length = n := by simp; omega
theorem rowz_at {z : List Nat} {o n s : Nat} (h : s < n) : ((z.drop o).take n).getD s 0 = z.getD (o + s) 0 := by
  simp [List.getD_eq_getElem?_getD, h, List.getElem?_drop]
/-- A row of numbers told by Dots: where a walk that fills block g stands. -/
structure Wk (w : World) (p q F r c : Nat) (z : List Nat) (g : Nat) (y : List Nat) (b2 o2 : Nat) (z2 : List Nat) (wr : World) : Prop where
  mat : Mat wr p q F r c z
  blk : Blk wr g y
  row2 : Row wr b2 o2 z2
  lt2 : b2 < wr.heap.size
  up : Up (One F) w wr
  fld : Fld F wr
  gF : g ≠ F
  gp : g ≠ p
  gq : g ≠ q
  g2 : b2 ≠ g
  F2 : b2 ≠ F
  gw : w.heap.size ≤ g
theorem Wk.drewN {w wr : World} {p q F r c g b2 o2 : Nat} {z y z2 : List Nat} (h : Wk w p q F r c z g y b2 o2 z2 wr) (n : Nat) : Wk w p q F r c z g y b2 o2 z2 (wr.drewN n) :=
  { h with mat := h.mat.drewN n, blk := h.blk.drewN n, row2 := ⟨h.row2.cells, h.row2.small⟩, lt2 := h.lt2, up := h.up.drewN n, fld := h.fld.drewN n }
theorem Wk.drew {w wr : World} {p q F r c g b2 o2 : Nat} {z y z2 : List Nat} (h : Wk w p q F r c z g y b2 o2 z2 wr) : Wk w p q F r c z g y b2 o2 z2 wr.drew := h.drewN 1
theorem Wk.kept {w wr w' : World} {p q F r c g b2 o2 : Nat} {z y z2 : List Nat} (h : Wk w p q F r c z g y b2 o2 z2 wr) (k : Kept F wr w') : Wk w p q F r c z g y b2 o2 z2 w' :=
  { h with mat := h.mat.kept k, blk := h.blk.up (Up.of_out k.1) h.gF, row2 := h.row2.of_out k.1 h.F2, lt2 := by rw [k.1.size]; exact h.lt2, up := h.up.trans (Up.of_out k.1), fld := k.2 }
theorem Wk.set {w wr : World} {p q F r c g b2 o2 : Nat} {z y z2 : List Nat} (h : Wk w p q F r c z g y b2 o2 z2 wr) (i v : Nat) (hv : v < 256) : Wk w p q F r c z g (y.set i v) b2 o2 z2 (wr.setCell ⟨g, i, none⟩ (.int .u8 v)) :=
  { h with mat := h.mat.other (a := ⟨g, i, none⟩) (fun e => h.gp e.symm) (fun e => h.gq e.symm) _, blk := h.blk.set i v hv
           row2 := ⟨fun j hj => by rw [World.cell?_setCell_other _ _ _ _ (by intro e; have := congrArg Addr.block e; simp at this; have := h.g2; omega)]; exact h.row2.cells j hj, h.row2.small⟩
           lt2 := by simpa using h.lt2, up := h.up.setCell (p := ⟨g, i, none⟩) (.inl h.gw) _, fld := h.fld.up (S := One g) ((Up.refl _ _).setCell (p := ⟨g, i, none⟩) (.inr (show One g g from rfl)) _) fun e => h.gF e.symm }
theorem far_cell {p g j k : Nat} (w : World) (v : Value) (h : p ≠ g) : (w.setCell ⟨g, k, none⟩ v).cell? ⟨p, j, none⟩ = w.cell? ⟨p, j, none⟩ :=
  World.cell?_setCell_other _ _ _ _ (by intro e; have := congrArg Addr.block e; simp at this; omega)
/-- The sums of products of row i with z2. -/
def sumAt (c : Nat) (z z2 : List Nat) (i : Nat) : Nat := GfM.xs c fun s => GfM.mul (z.getD (i * c + s) 0) (z2.getD s 0)
theorem dotk_sumAt {c i : Nat} {z z2 : List Nat} : dotk ((z.drop (i * c)).take c) z2 c = sumAt c z z2 i := by
  rw [dotk_xs]
  exact GfM.xs_congr fun s hs => by rw [rowz_at hs]
theorem sumAt_lt (c : Nat) (z z2 : List Nat) (i : Nat) : sumAt c z z2 i < 256 := GfM.xs_lt fun _ _ => GfM.mul_lt _ _
set_option maxRecDepth 100000 in
set_option maxHeartbeats 800000 in
theorem times_good (p q F r c b2 o2 cap : Nat) (z z2 : List Nat) (w : World) (hm : Mat w p q F r c z) (hf : Fld F w) (h2 : Row w b2 o2 z2) (hl : z2.length = c) (hb : b2 < w.heap.size) (hbF : b2 ≠ F) :
    Calls Tryz.prog 64 #[.pointer (some ⟨p, 0, none⟩), .slice (some ⟨b2, o2, none⟩) c cap] w
      fun e w' => e = .returned (.tuple #[.slice (some ⟨w.heap.size, 0, none⟩) r r, .int .i64 0]) ∧ Blk w' w.heap.size (tab r fun i => sumAt c z z2 i) ∧ Up (One F) w w' ∧ Fld F w' := by
  have m1 := hm.rows
  have m2 := hm.cols
  have hr := hm.r32
  have hc := hm.c32
  have hmk := make_bytes w r (by omega)
  have HW : Hid (Wk w p q F r c z w.heap.size (zer r) b2 o2 z2 (w.alloc (.cells (bys (zer r)) 5))) := by
    have a1 := hm.pl
    have a2 := hm.ql
    have a3 := hf.lt
    exact ⟨hm.alloc _, Blk.new w _ (zer_small r), h2.up ((Up.refl Nul w).alloc _) hb id, by simp; omega, (Up.refl _ w).alloc _, hf.alloc _, by omega, by omega, by omega, by omega, hbF, Nat.le_refl _⟩
  have HL := hid hl
  have HMl := hid hm
  generalize w.alloc (.cells (bys (zer r)) 5) = w0 at *
  clear hm hf h2 hl hb hbF
  go_enter Tryz.func64, Tryz.ntmps64
  go_wp2
  generalize HG : w.heap.size = g at *
  go_loopw [22] (fun i wr => ∃ k : Nat, k ≤ r ∧ i = .int .i64 k ∧ ∃ y, Wk w p q F r c z g y b2 o2 z2 wr ∧ y.length = r ∧ ∀ i, i < k → y.getD i 0 = sumAt c z z2 i) (fun i _ => r - (intOf i).toNat)
  case atStart => exact ⟨0, by omega, rfl, _, HW.out, zer_length _, fun _ h => absurd h (Nat.not_lt_zero _)⟩
  case round =>
    obtain ⟨k, hk, rfl, y, hy, hyl, hyt⟩ := hrel
    by_cases hlt : k < r
    · have s0 := hy.mat.f
      have HM1 := hid hy.mat.drew
      have HY := hid hy
      have HYL := hid hyl
      have HYT := hid hyt
      have i1 : (0 : Int) ≤ (k : Int) := by omega
      have i2 : (k : Int) < (r : Int) := by omega
      have hpg : p ≠ g := fun e => hy.gp e.symm
      obtain ⟨v, V⟩ : ∃ v, Hid (sumAt c z z2 k = v) := ⟨_, rfl⟩
      have v8 : v < 256 := by rw [← V.out]; exact sumAt_lt _ _ _ _
      have hzl : k * c + c ≤ z.length := by
        have := Nat.mul_le_mul_right c (show k + 1 ≤ r from hlt)
        rw [hy.mat.len]
        rw [Nat.add_mul] at this
        omega
      have HZL := hid (rowz_length hzl)
      have HZ2 := hid hzl
      clear hy hyl hyt hzl
      go_wp2_with fail
      go_region_held3 (fun w' => w'.cell? ⟨p, 0, none⟩ = some (.pointer (some ⟨F, 0, none⟩))) (first | assumption | exact (far_cell _ _ hpg).trans (by assumption) | go_keep)
        ((first
          | (go_at_call 70; (with_reducible refine (row_any p q F r c k z _ HM1.out hlt).mono ?_); rintro e w1 ⟨rfl, m1, E1⟩; have D1 : Hid (Wk w p q F r c z g y b2 o2 z2 w1) := (by show Wk w p q F r c z g y b2 o2 z2 w1; rw [E1]; exact HY.out.drew.drewN m1); have s1 := D1.out.mat.f; clear E1)
          | (go_at_call 82; (with_reducible refine (dot_eq F q (k * c) _ b2 o2 _ c _ z2 _ D1.out.fld (D1.out.mat.blk.row (k * c) c HZ2.out) D1.out.row2 D1.out.mat.qF D1.out.F2 HZL.out HL.out (by omega)).mono ?_); rintro e w2 ⟨he, k2⟩; rw [dotk_sumAt, V.out] at he; subst he; have D2 := hid (D1.out.kept k2); clear k2; have s2 := D2.out.mat.f; have t2 := D2.out.blk.cell k (by rw [HYL.out]; exact hlt); have t3 := D2.out.blk.froz k)))
      go_wp2
      go_roundw
      case rel => exact ⟨k + 1, by omega, by go_num, _, D2.out.set k v v8, by rw [List.length_set]; exact HYL.out, fun i hi => by
        rw [getD_set _ _ _ _ (by rw [HYL.out]; exact hlt)]
        split
        · next e => rw [e, V.out]
        · exact HYT.out i (by omega)⟩
      case measure => simp [intOf]; omega
    · obtain rfl : r = k := by omega
      have HY := hid (And.intro hy (And.intro hyl hyt))
      clear hy hyl hyt
      go_wp2
      go_ret2
      subst HG
      refine ⟨rfl, ?_, HY.out.1.up, HY.out.1.fld⟩
      rw [← eq_tab HY.out.2.1 HY.out.2.2]
      exact HY.out.1.blk
/-- The cells of a product, row by row. -/
def prodZ (r k c : Nat) (z z2 : List Nat) : List Nat := tab (r * c) fun t => sumAt k z (colOf k c (t % c) z2) (t / c)

theorem stl_congr {n m at_ p : Nat} {L M : GfM.Mx} (h : ∀ i j, i < n → j < m → L i j = M i j) (ha : at_ < n) (hp : p < n) (hm : at_ < m) (i j : Nat) (hi : i < n) (hj : j < m) : GfM.stl at_ p L i j = GfM.stl at_ p M i j := by
  unfold GfM.stl GfM.swp
  rw [h p j hp hj, h p at_ hp hm]
  by_cases e1 : i = at_
  · rw [if_pos e1, if_pos e1]
  · rw [if_neg e1, if_neg e1, if_neg e1, if_neg e1]
    by_cases e2 : i = p
    · rw [if_pos e2, if_pos e2, h at_ j ha hj, h at_ at_ ha hm]
    · rw [if_neg e2, if_neg e2, h i j hi hj, h i at_ hi hm]
theorem run_stuck {n k : Nat} {L M : GfM.Mx} (h : GfM.run n L k = some M) (hp : GfM.pivot n k M = none) (d : Nat) : GfM.run n L (k + 1 + d) = none := by
  induction d with
  | zero => simp [GfM.run, h, hp]
  | succ d ih => rw [← Nat.add_assoc, GfM.run, ih]; rfl
theorem run_next {n k p : Nat} {L M : GfM.Mx} (h : GfM.run n L k = some M) (hp : GfM.pivot n k M = some p) : GfM.run n L (k + 1) = some (GfM.stl k p M) := by
  simp [GfM.run, h, hp]
/-- The cells of n rows of n. -/
def cz (n : Nat) (z : List Nat) : GfM.Mx := fun i j => z.getD (i * n + j) 0
/-- Where no line has anything in the column: false. -/
theorem settle_none2 (W : World) (p F gl n m at_ : Nat) (b : Nat → Nat) (L : Nat → List Nat) (w : World) (h : Elim W F gl n m b L w) (hf : Fld F w) (ha : at_ < n) (hnm : n ≤ m) (hn : n ≤ 32)
    (hp : GfM.pivot n at_ (celL L) = none) :
    Calls Tryz.prog 86 #[.pointer (some ⟨p, 0, none⟩), .slice (some ⟨gl, 0, none⟩) n n, .int .i64 at_] w
      fun e w' => e = .returned (.bool false) ∧ Up (One F) W w' ∧ Fld F w' := by
  have hmf : ∀ (fn : Fn) (first cap : Array Value) (w : World), (Instr.makeFunc fn first cap).run Tryz.prog w = .ok (.func fn first cap) w := fun _ _ _ _ => rfl
  have hA : (w.alloc (.cells #[.int .i64 at_] 3)).cell? ⟨w.heap.size, 0, none⟩ = some (.int .i64 at_) := World.cell?_alloc_new w _ _ 0
  have H : Hid _ := h.alloc (.cells #[.int .i64 at_] 3)
  have HP : Hid _ := hp
  have HF := hid (hf.alloc (.cells #[.int .i64 at_] 3))
  clear h hp hf
  go_enter Tryz.func86, Tryz.ntmps86
  go_wp2_with ((go_at_call 73; (with_reducible refine (index_none W F gl n m at_ w.heap.size _ b L _ H.out hA (by omega) hn HP.out).mono ?_); rintro e w1 ⟨rfl, rfl⟩))
  go_ret
  exact ⟨rfl, H.out.up, HF.out⟩
theorem Mat.copied {w w' : World} {p q F r c : Nat} {y y' : List Nat} (h : Mat w p q F r c y) (hb : Blk w' q y') (hl : y'.length = y.length) (u : Up (One q) w w') : Mat w' p q F r c y' :=
  have hc : ∀ j, w'.cell? ⟨p, j, none⟩ = w.cell? ⟨p, j, none⟩ := fun j => u.cell (p := ⟨p, j, none⟩) h.pl h.pq
  { h with f := (hc 0).trans h.f, rows := (hc 1).trans h.rows, cols := (hc 2).trans h.cols, cells := (hc 3).trans h.cells, blk := hb, len := hl.trans h.len, pl := Nat.lt_of_lt_of_le h.pl u.size }
theorem row_told {n k : Nat} {y s : List Nat} {f : Nat → Nat → Nat} (hn : 0 < n) (hs : s.length = n) (hl : k * n + n ≤ y.length) (ht : ∀ t, t < k * n → y.getD t 0 = f (t / n) (t % n)) (hr : ∀ j, j < n → s.getD j 0 = f k j) :
    ∀ t, t < (k + 1) * n → (over y (k * n) s).getD t 0 = f (t / n) (t % n) := by
  intro t h
  rw [Nat.add_mul, Nat.one_mul] at h
  rw [over_at (by rw [hs]; exact hl), hs]
  by_cases e : k * n ≤ t
  · rw [if_pos ⟨e, by omega⟩, hr _ (by omega)]
    obtain ⟨j, rfl⟩ : ∃ j, t = k * n + j := ⟨t - k * n, by omega⟩
    have hj : j < n := by omega
    rw [Nat.add_sub_cancel_left, Nat.mul_comm k n, Nat.mul_add_mod, Nat.mod_eq_of_lt hj, Nat.mul_add_div hn, Nat.div_eq_of_lt hj, Nat.add_zero]
  · rw [if_neg (by omega), ht t (by omega)]
set_option maxRecDepth 100000 in
set_option maxHeartbeats 3200000 in
theorem invert_any (p q F n : Nat) (z : List Nat) (w : World) (hm : Mat w p q F n n z) (hf : Fld F w) :
    Calls Tryz.prog 69 #[.pointer (some ⟨p, 0, none⟩)] w fun e w' => Up (One F) w w' ∧ Fld F w' ∧
      ((GfM.run n (GfM.beside n (cz n z)) n = none ∧ e = .returned (.tuple #[.pointer none, .int .i64 2])) ∨
       ∃ M, GfM.run n (GfM.beside n (cz n z)) n = some M ∧ e = .returned (.tuple #[.pointer (some ⟨w.heap.size + 1, 0, none⟩), .int .i64 0]) ∧ Mat w' (w.heap.size + 1) w.heap.size F n n (tab (n * n) fun t => GfM.half n M (t / n) (t % n))) := by
  have hnot : ∀ (x : Bool) (w : World), (Op.unary .not (.bool x)).run Tryz.prog w = .ok (.bool (!x)) w := fun _ _ => rfl
  have s1 := hm.f
  have s2 := hm.rows
  have s3 := hm.cols
  have HM := hid hm
  have HF := hid hf
  have hn := hm.r32
  have hn1 := hm.r1
  clear hm hf
  go_enter Tryz.func69, Tryz.ntmps69
  go_wp2_with fail
  go_quiet (fail)
  obtain ⟨wa, WA⟩ : ∃ x, x = w.drewN nq := ⟨_, rfl⟩
  rw [← WA]
  have a1 : wa.cell? ⟨p, 0, none⟩ = some (.pointer (some ⟨F, 0, none⟩)) := by rw [WA]; exact s1
  have a2 : wa.cell? ⟨p, 1, none⟩ = some (.int .i64 n) := by rw [WA]; exact s2
  have a3 : wa.cell? ⟨p, 2, none⟩ = some (.int .i64 n) := by rw [WA]; exact s3
  have hsz : wa.heap.size = w.heap.size := by rw [WA]; rfl
  have hma : Mat wa p q F n n z := by rw [WA]; exact HM.out.drewN nq
  have hfa : Fld F wa := by rw [WA]; exact HF.out.drewN nq
  have hua : Up (One F) w wa := by rw [WA]; exact (Up.refl _ _).drewN nq
  have H := hid (blank_good F n n wa.drew hfa.lt hn1 hn hn1 hn)
  have HA := hid (And.intro hma (And.intro hfa hua))
  have SZ := hid hsz
  clear WA s1 s2 s3 hma hfa hua hsz
  go_wp2_with fail
  go_region_held3 (fun w' => w'.cell? ⟨p, 0, none⟩ = some (.pointer (some ⟨F, 0, none⟩)) ∧ w'.cell? ⟨p, 1, none⟩ = some (.int .i64 n) ∧ w'.cell? ⟨p, 2, none⟩ = some (.int .i64 n)) (first | exact ⟨by assumption, by assumption, by assumption⟩ | go_keep)
    ((go_at_call 79; (with_reducible refine H.out.mono ?_); rintro e w1 ⟨rfl, k1⟩; have b1 := (k1.up.cell (p := ⟨p, 0, none⟩) HA.out.1.pl id).trans a1; have b2 := (k1.up.cell (p := ⟨p, 1, none⟩) HA.out.1.pl id).trans a2; have b3 := (k1.up.cell (p := ⟨p, 2, none⟩) HA.out.1.pl id).trans a3; have K1 := hid k1; clear k1))
  have hW : Mat w1 p q F n n z ∧ Mat w1 (wa.heap.size + 1) wa.heap.size F n n (zer (n * n)) ∧ Fld F w1 ∧ Up (One F) w w1 ∧ p ≠ wa.heap.size ∧ q ≠ wa.heap.size := by
    have k1 := K1.out
    obtain ⟨h1, h3, h4⟩ := HA.out
    have e1 := h1.pl
    have e2 := h1.ql
    exact ⟨h1.drew.up k1.up id id, k1.mat, h3.drew.up (S := Nul) k1.up id, h4.drew.trans k1.up.nul, by omega, by omega⟩
  have HB := hid (beside_any p q F n z w1 hW.1)
  have HW := hid hW
  obtain ⟨p3, P3⟩ : ∃ x, Hid (x = wa.heap.size + 1) := ⟨_, rfl⟩
  obtain ⟨q3, Q3⟩ : ∃ x, Hid (x = wa.heap.size) := ⟨_, rfl⟩
  rw [← P3.out, ← Q3.out] at HW
  rw [← P3.out]
  clear hW b1 b2 b3 a1 a2 a3 H K1
  go_wp2_with fail
  refine HB.out.mono ?_
  rintro e w2 ⟨rfl, b0, L0, h0, h00⟩
  obtain ⟨gl, GL⟩ : ∃ x, Hid (x = w1.heap.size) := ⟨_, rfl⟩
  rw [← GL.out] at h0 ⊢
  have HE0 := hid (And.intro (h0.elim (F := F)) (And.intro (HW.out.2.2.1.up (S := Nul) h0.up id) h00))
  clear h0 h00 HB
  go_wp2_with fail
  go_loopw [42] (fun i wr => ∃ k : Nat, k ≤ n ∧ i = .int .i64 k ∧ ∃ b L M, GfM.run n (GfM.beside n (cz n z)) k = some M ∧ Elim w1 F gl n (2 * n) b L wr ∧ Fld F wr ∧ ∀ i j, i < n → j < 2 * n → celL L i j = M i j) (fun i _ => n - (intOf i).toNat)
  case atStart => exact ⟨0, by omega, rfl, b0, L0, _, rfl, HE0.out.1, HE0.out.2.1, fun i j hi hj => by unfold celL; rw [HE0.out.2.2 i hi]; exact tab_at _ _ _ hj⟩
  case round =>
    clear HE0
    obtain ⟨k, hk, rfl, b, L, M, hr, he, hf, hc⟩ := hrel
    by_cases hlt : k < n
    · have hpc : GfM.pivot n k (celL L) = GfM.pivot n k M := GfM.pivot_congr fun i hi => hc i k hi (by omega)
      cases hp : GfM.pivot n k M with
      | none =>
        have HS := hid (settle_none2 w1 p F gl n (2 * n) k b L wr he hf hlt (by omega) hn (hpc.trans hp))
        have hR : GfM.run n (GfM.beside n (cz n z)) n = none := by
          have := run_stuck hr hp (n - (k + 1))
          rwa [show k + 1 + (n - (k + 1)) = n by omega] at this
        have HR := hid hR
        clear he hf hc hr hp hpc hR
        go_wp2_with fail
        refine HS.out.mono ?_
        rintro e w3 ⟨rfl, u3, f3⟩
        have H3 := hid (And.intro (HW.out.2.2.2.1.trans u3) f3)
        clear u3 f3
        go_wp2
        go_ret2
        exact ⟨H3.out.1, H3.out.2, .inl ⟨HR.out, rfl⟩⟩
      | some p' =>
        obtain ⟨p1, p2, p3'⟩ := GfM.pivot_some hp
        obtain ⟨t, rfl⟩ : ∃ t, p' = k + t := ⟨p' - k, by omega⟩
        have HS := hid (settle_some w1 p q F gl n (2 * n) k t n n z b L wr HW.out.1 HW.out.2.2.1.lt hf he hlt (by omega) hn (by omega) (hpc.trans hp))
        have HR := hid (run_next hr hp)
        have HC := hid fun i j hi hj => stl_congr (at_ := k) (p := k + t) hc hlt p2 (by omega) i j hi hj
        clear he hf hc hr hp hpc p1 p2 p3'
        go_wp2_with fail
        refine HS.out.mono ?_
        rintro e w3 ⟨rfl, b', L', e3, f3, c3⟩
        have H3 := hid (And.intro e3 (And.intro f3 c3))
        clear e3 f3 c3
        go_wp2
        go_roundw
        case rel => exact ⟨k + 1, by omega, by go_num, b', L', _, HR.out, H3.out.1, .inr H3.out.2.1, fun i j hi hj => (H3.out.2.2 i j hi hj).trans (HC.out i j hi hj)⟩
        case measure => simp [intOf]; omega
    · obtain rfl : n = k := by omega
      have HR := hid hr
      have HE := hid (And.intro he (And.intro hf hc))
      clear he hf hr hc
      have hm3 : Mat wr p3 q3 F n n (zer (n * n)) := HW.out.2.1.up HE.out.1.up HW.out.2.1.pF HW.out.2.1.qF
      have HM3 := hid hm3
      have hgq : gl ≠ q3 := by have := GL.out; have := HW.out.2.1.ql; omega
      have hgp3 : p3 ≠ q3 := HW.out.2.1.pq
      have hmw : Mat wr p q F n n z := HW.out.1.up HE.out.1.up HW.out.1.pF HW.out.1.qF
      have HMW := hid hmw
      obtain ⟨we, WE⟩ : ∃ x, x = wr := ⟨_, rfl⟩
      rw [← WE] at HE HM3 HMW
      clear hm3 hmw
      have HS : Hid (Up (One q3) we wr) := by show Up (One q3) we wr; rw [WE]; exact Up.refl _ _
      rw [WE] at HM3
      clear WE
      go_wp2
      go_loopw [53] (fun i wr => ∃ k : Nat, k ≤ n ∧ i = .int .i64 k ∧ ∃ y, Mat wr p3 q3 F n n y ∧ (∀ t, t < k * n → y.getD t 0 = GfM.half n M (t / n) (t % n)) ∧ Up (One q3) we wr) (fun i _ => n - (intOf i).toNat)
      case atStart => exact ⟨0, by omega, rfl, _, HM3.out, fun t ht => by rw [Nat.zero_mul] at ht; exact absurd ht (Nat.not_lt_zero _), HS.out⟩
      case round =>
        clear HS HM3
        obtain ⟨k, hk, rfl, y, hy, hyt, hyu⟩ := hrel
        by_cases hlt : k < n
        · have hel := HE.out.1
          have hcl := (hyu.cell (p := ⟨gl, k, none⟩) hel.gll hgq).trans (hel.lin k hlt)
          have hbk := (hel.rows k hlt).up hyu (fun e => by have := (hel.own k hlt).1; have := HW.out.2.1.ql; unfold One at e; omega)
          have hlen := hel.lens k hlt
          have hmwr := HMW.out.up hyu HW.out.2.2.2.2.1 HW.out.2.2.2.2.2
          have m2 := hmwr.cols
          have HMW2 := hid hmwr
          have hbq : b k ≠ q3 := by have := (hel.own k hlt).1; have := HW.out.2.1.ql; omega
          have HM1 : Hid (Mat wr.drew p3 q3 F n n y) := hy.drew
          have HYT := hid hyt
          have HYU := hid hyu
          have HBK : Hid (Blk wr.drew (b k) (L k)) := hbk.drew
          have HLN := hid hlen
          have hyl := hy.len
          have hkn : k * n + n ≤ y.length := by
            have := Nat.mul_le_mul_right n (show k + 1 ≤ n from hlt)
            rw [hyl]
            rw [Nat.add_mul] at this
            omega
          have HKN := hid hkn
          have hpq : p ≠ q3 := HW.out.2.2.2.2.1
          have HCC := hid HE.out.2.2
          have i1 : (0 : Int) ≤ (n : Int) := by omega
          obtain ⟨mm, MM⟩ : ∃ x, Hid (2 * n = x) := ⟨_, rfl⟩
          rw [MM.out] at hcl
          have i2 : (n : Int) ≤ (mm : Int) := by have := MM.out; omega
          have i3 : mm ≠ n := by have := MM.out; omega
          have i4 : n < mm := by have := MM.out; omega
          obtain ⟨bk, BK⟩ : ∃ x, Hid (b k = x) := ⟨_, rfl⟩
          rw [BK.out] at hcl HBK hbq
          clear hel hbk hlen hmwr hy hyt hyu hkn hyl
          go_wp2_with fail
          go_region_held3 (fun w' => w'.cell? ⟨p, 2, none⟩ = some (.int .i64 n)) (first | assumption | go_keep)
            ((first
              | (go_at_call 70; (with_reducible refine (row_any p3 q3 F n n k y _ HM1.out hlt).mono ?_); rintro e wb ⟨rfl, m1, E1⟩; have D1 : Hid (Mat wb p3 q3 F n n y ∧ Blk wb bk (L k) ∧ Up (One q3) wr wb) := (by show Mat wb p3 q3 F n n y ∧ _; rw [E1]; exact ⟨HM1.out.drewN m1, HBK.out.drewN m1, ((Up.refl _ wr).drew).drewN m1⟩); have d1 : wb.cell? ⟨p, 2, none⟩ = some (.int .i64 n) := (by rw [E1]; exact m2); clear E1)
              | ((with_reducible refine step_copy_bytes rfl (.tmp 60) (.tmp 66) rfl q3 (k * n) (mm - n) n _ bk n _ y (((L k).drop n).take (mm - n)) D1.out.1.blk (D1.out.2.1.row n (mm - n) (by rw [HLN.out, MM.out]; omega)) (by simp; have := HLN.out; have := MM.out; omega) (by have := MM.out; omega) (by have := HKN.out; have := MM.out; omega) rfl rfl ?_); intro wc H1 H2; have d2 := (H2.out.1.cell (p := ⟨p, 2, none⟩) (lt_of_cell d1) hpq).trans d1)))
          go_wp2
          have hsl : (((L k).drop n).take (mm - n)).length = n := by simp; have := HLN.out; have := MM.out; omega
          have hfin : Mat wc p3 q3 F n n (over y (k * n) (((L k).drop n).take (mm - n))) := D1.out.1.copied H1.out (over_length (by rw [hsl]; exact HKN.out)) H2.out.1
          have htold := row_told (f := GfM.half n M) (by omega) hsl HKN.out HYT.out fun j hj => by
            have h1 := HCC.out k (n + j) hlt (by omega)
            unfold celL at h1
            unfold GfM.half
            rw [← h1, rowz_at (by have := MM.out; omega)]
          have HFI := hid (And.intro hfin (And.intro htold ((HYU.out.trans D1.out.2.2).trans H2.out.1)))
          clear hfin htold hsl
          go_roundw
          case rel => exact ⟨k + 1, by omega, by go_num, _, HFI.out⟩
          case measure => simp [intOf]; omega
        · obtain rfl : n = k := by omega
          have HY := hid (And.intro hy (And.intro hyt hyu))
          clear hy hyt hyu
          go_wp2
          go_ret2
          have e1 : p3 = w.heap.size + 1 := by have := P3.out; have := SZ.out; omega
          have e2 : q3 = w.heap.size := by have := Q3.out; have := SZ.out; omega
          subst e1 e2
          obtain ⟨y1, y2, y3⟩ := HY.out
          obtain ⟨_, _, _, u1, _⟩ := HW.out
          have u2 := u1.trans HE.out.1.up
          refine ⟨⟨y3.os.trans u2.os, y3.tape.trans u2.tape, y3.output.trans u2.output, Nat.le_trans u2.size y3.size, fun j hj hs => (y3.block j (Nat.lt_of_lt_of_le hj u2.size) (by unfold One; omega)).trans (u2.block j hj hs)⟩,
            HE.out.2.1.up (S := One w.heap.size) y3 (fun e => y1.qF e.symm), .inr ⟨M, HR.out, rfl, ?_⟩⟩
          rw [← eq_tab y1.len y2]
          exact y1

/-- A row of ints. -/
def RowI (w : World) (b o n : Nat) (f : Nat → Int) : Prop := ∀ i, i < n → w.cell? ⟨b, o + i, none⟩ = some (.int .i64 (f i))
theorem RowI.up {S : Nat → Prop} {w w' : World} {b o n : Nat} {f : Nat → Int} (h : RowI w b o n f) (u : Up S w w') (hb : b < w.heap.size) (hs : ¬ S b) : RowI w' b o n f :=
  fun i hi => (u.cell (p := ⟨b, o + i, none⟩) hb hs).trans (h i hi)
theorem none_yes (p A r : Nat) (x : Int) (w : World) (hA : w.cell? ⟨A, 0, none⟩ = some (.pointer (some ⟨p, 0, none⟩))) (hr : w.cell? ⟨p, 1, none⟩ = some (.int .i64 r)) (hx : x < 0 ∨ (r : Int) ≤ x) :
    Calls Tryz.prog 83 #[.int .i64 x, .pointer (some ⟨A, 0, none⟩)] w fun e w' => e = .returned (.bool true) ∧ w' = w := by
  by_cases h0 : x < 0
  · clear hx
    go_enter Tryz.func83, Tryz.ntmps83
    go_wp2
    go_ret
    exact ⟨rfl, rfl⟩
  · have h1 : (r : Int) ≤ x := by omega
    clear hx
    go_enter Tryz.func83, Tryz.ntmps83
    go_wp2
    go_ret
    exact ⟨rfl, rfl⟩
theorem none_no (p A r : Nat) (x : Int) (w : World) (hA : w.cell? ⟨A, 0, none⟩ = some (.pointer (some ⟨p, 0, none⟩))) (hr : w.cell? ⟨p, 1, none⟩ = some (.int .i64 r)) (h0 : 0 ≤ x) (h1 : x < r) :
    Calls Tryz.prog 83 #[.int .i64 x, .pointer (some ⟨A, 0, none⟩)] w fun e w' => e = .returned (.bool false) ∧ w' = w := by
  go_enter Tryz.func83, Tryz.ntmps83
  go_wp2
  go_ret
  have e : (decide (x < 0) || decide ((r : Int) ≤ x)) = false := by simp; omega
  exact ⟨congrArg (fun b => Ending.returned (.bool b)) e, rfl⟩
/-- A row that is none. -/
def Bad (r : Nat) (x : Int) : Prop := x < 0 ∨ (r : Int) ≤ x
set_option maxHeartbeats 400000 in
theorem indexI_any (p A r b o n cap : Nat) (f : Nat → Int) (w : World) (hA : w.cell? ⟨A, 0, none⟩ = some (.pointer (some ⟨p, 0, none⟩))) (hr : w.cell? ⟨p, 1, none⟩ = some (.int .i64 r)) (hf : RowI w b o n f) (hn : n ≤ 9223372036854775807) :
    Calls Tryz.prog 96 #[.slice (some ⟨b, o, none⟩) n cap, .func (.func 83) #[] #[.pointer (some ⟨A, 0, none⟩)]] w
      fun e w' => (∃ x : Int, e = .returned (.int .i64 x) ∧ ((0 ≤ x ∧ ∃ i, i < n ∧ Bad r (f i)) ∨ (x < 0 ∧ ∀ i, i < n → ¬ Bad r (f i)))) ∧ w' = w := by
  have HF := hid hf
  clear hf
  go_enter Tryz.func96, Tryz.ntmps96
  go_wp2
  go_loopw [8] (fun i wr => ∃ k : Nat, k ≤ n ∧ i = .int .i64 k ∧ wr = w ∧ ∀ i, i < k → ¬ Bad r (f i)) (fun i _ => n - (intOf i).toNat)
  case atStart => exact ⟨0, by omega, rfl, rfl, fun _ h => absurd h (Nat.not_lt_zero _)⟩
  case round =>
    obtain ⟨k, hk, rfl, rfl, hg⟩ := hrel
    have HG := hid hg
    clear hg
    by_cases hlt : k < n
    · have hc := HF.out k hlt
      obtain ⟨x, X⟩ : ∃ x, Hid (f k = x) := ⟨_, rfl⟩
      rw [X.out] at hc
      by_cases hb : x < 0 ∨ (r : Int) ≤ x
      · have HB := hid hb
        clear hb
        go_wp2_with ((go_at_call 83; (with_reducible refine (none_yes p A r x _ hA hr HB.out).mono ?_); rintro e w1 ⟨rfl, rfl⟩))
        go_ret
        exact ⟨⟨_, rfl, .inl ⟨by omega, k, hlt, by rw [X.out]; exact HB.out⟩⟩, rfl⟩
      · have h0 : 0 ≤ x := by omega
        have h1 : x < r := by omega
        clear hb
        go_wp2_with ((go_at_call 83; (with_reducible refine (none_no p A r x _ hA hr h0 h1).mono ?_); rintro e w1 ⟨rfl, rfl⟩))
        go_roundw
        case rel => exact ⟨k + 1, by omega, by go_num, trivial, fun i hi => by
          by_cases e : i = k
          · rw [e, X.out]; unfold Bad; omega
          · exact HG.out i (by omega)⟩
        case measure => simp [intOf]; omega
    · obtain rfl : n = k := by omega
      go_wp2
      go_ret
      exact ⟨⟨_, rfl, .inr ⟨by omega, HG.out⟩⟩, rfl⟩
theorem contains_any (p A r b o n cap : Nat) (f : Nat → Int) (w : World) (hA : w.cell? ⟨A, 0, none⟩ = some (.pointer (some ⟨p, 0, none⟩))) (hr : w.cell? ⟨p, 1, none⟩ = some (.int .i64 r)) (hf : RowI w b o n f) (hn : n ≤ 9223372036854775807) :
    Calls Tryz.prog 84 #[.slice (some ⟨b, o, none⟩) n cap, .func (.func 83) #[] #[.pointer (some ⟨A, 0, none⟩)]] w
      fun e w' => ((e = .returned (.bool true) ∧ ∃ i, i < n ∧ Bad r (f i)) ∨ (e = .returned (.bool false) ∧ ∀ i, i < n → ¬ Bad r (f i))) ∧ w' = w := by
  have H := hid (indexI_any p A r b o n cap f w hA hr hf hn)
  clear hA hr hf hn
  go_enter Tryz.func84, Tryz.ntmps84
  go_wp2_with fail
  refine H.out.mono ?_
  rintro e w1 ⟨⟨x, rfl, ⟨h0, hb⟩ | ⟨h0, hb⟩⟩, rfl⟩
  · have HB := hid hb
    clear hb
    go_wp2
    go_ret
    exact ⟨.inl ⟨by simp, HB.out⟩, rfl⟩
  · have HB := hid hb
    have h1 : ¬ 0 ≤ x := by omega
    clear hb
    go_wp2
    go_ret
    exact ⟨.inr ⟨by simp [h1], HB.out⟩, rfl⟩
/-- What is picked. -/
def pickZ (n c : Nat) (z : List Nat) (f : Nat → Nat) : List Nat := tab (n * c) fun t => z.getD (f (t / c) * c + t % c) 0
set_option maxRecDepth 100000 in
set_option maxHeartbeats 1600000 in
theorem pick_good (p q F r c b o n cap : Nat) (z : List Nat) (f : Nat → Nat) (w : World) (hm : Mat w p q F r c z) (hF : F < w.heap.size) (hf : RowI w b o n (fun i => (f i : Int))) (hb : b < w.heap.size) (hg : ∀ i, i < n → f i < r) (n1 : 1 ≤ n) (n2 : n ≤ 32) :
    Calls Tryz.prog 68 #[.pointer (some ⟨p, 0, none⟩), .slice (some ⟨b, o, none⟩) n cap] w
      fun e w' => ∃ p3 q3, e = .returned (.tuple #[.pointer (some ⟨p3, 0, none⟩), .int .i64 0]) ∧ Mat w' p3 q3 F n c (pickZ n c z f) ∧ Up Nul w w' ∧ w.heap.size ≤ p3 ∧ w.heap.size ≤ q3 := by
  have hmf : ∀ (fn : Fn) (first cap : Array Value) (w : World), (Instr.makeFunc fn first cap).run Tryz.prog w = .ok (.func fn first cap) w := fun _ _ _ _ => rfl
  have hA : (w.alloc (.cells #[.pointer (some ⟨p, 0, none⟩)] 85)).cell? ⟨w.heap.size, 0, none⟩ = some (.pointer (some ⟨p, 0, none⟩)) := World.cell?_alloc_new w _ _ 0
  have hu : Up Nul w (w.alloc (.cells #[.pointer (some ⟨p, 0, none⟩)] 85)) := (Up.refl _ _).alloc _
  have hm1 := hm.alloc (.cells #[.pointer (some ⟨p, 0, none⟩)] 85)
  have hf1 := hf.up hu hb id
  have H := hid (contains_any p w.heap.size r b o n cap (fun i => (f i : Int)) _ hA hm1.rows hf1 (by omega))
  have HX := hid (And.intro hm1 (And.intro hf1 hu))
  have HF : Hid (F < (w.alloc (.cells #[.pointer (some ⟨p, 0, none⟩)] 85)).heap.size ∧ b < (w.alloc (.cells #[.pointer (some ⟨p, 0, none⟩)] 85)).heap.size ∧ w.heap.size < (w.alloc (.cells #[.pointer (some ⟨p, 0, none⟩)] 85)).heap.size) := by
    show _ ∧ _ ∧ _
    simp
    omega
  have HG := hid hg
  have HA := hid hA
  clear hm hF hf hb hg hm1 hf1 hu hA
  go_enter Tryz.func68, Tryz.ntmps68
  go_wp2_with fail
  refine H.out.mono ?_
  rintro e w1 ⟨⟨rfl, i, hi, hbad⟩ | ⟨rfl, _⟩, rfl⟩
  · have := HG.out i hi
    unfold Bad at hbad
    omega
  generalize w.alloc (.cells #[.pointer (some ⟨p, 0, none⟩)] 85) = wa at *
  have hAA : wa.cell? ⟨w.heap.size, 0, none⟩ = some (.pointer (some ⟨p, 0, none⟩)) := HA.out
  have a1 := HX.out.1.f
  have a2 := HX.out.1.cols
  have HB := hid (blank_good F n c wa.drew HF.out.1 n1 n2 HX.out.1.c1 HX.out.1.c32)
  have AW := hid HF.out.2.2
  obtain ⟨A, EA⟩ : ∃ x, Hid (x = w.heap.size) := ⟨_, rfl⟩
  rw [← EA.out] at hAA AW ⊢
  clear H
  go_wp2_with fail
  go_region_held3 (fun w' => w'.cell? ⟨A, 0, none⟩ = some (.pointer (some ⟨p, 0, none⟩)) ∧ w'.cell? ⟨p, 0, none⟩ = some (.pointer (some ⟨F, 0, none⟩)) ∧ w'.cell? ⟨p, 2, none⟩ = some (.int .i64 c)) (first | exact ⟨by assumption, by assumption, by assumption⟩ | go_keep)
    ((go_at_call 79; (with_reducible refine HB.out.mono ?_); rintro e w1 ⟨rfl, k1⟩; have b0 := (k1.up.cell (p := ⟨A, 0, none⟩) AW.out id).trans hAA; have b1 := (k1.up.cell (p := ⟨p, 0, none⟩) HX.out.1.pl id).trans a1; have b2 := (k1.up.cell (p := ⟨p, 2, none⟩) HX.out.1.pl id).trans a2; have K1 := hid k1; clear k1))
  have hM3 : Mat w1 (wa.heap.size + 1) wa.heap.size F n c (zer (n * c)) := K1.out.mat
  have hX1 : Mat w1 p q F r c z ∧ RowI w1 b o n (fun i => (f i : Int)) ∧ Up Nul w w1 ∧ A < wa.heap.size ∧ b < wa.heap.size ∧ p < wa.heap.size ∧ q < wa.heap.size := by
    obtain ⟨h1, h2, h3⟩ := HX.out
    have k1 := K1.out
    exact ⟨h1.drew.up k1.up id id, h2.up (w := wa.drew) k1.up HF.out.2.1 id, h3.drew.trans k1.up, by rw [EA.out]; exact HF.out.2.2, HF.out.2.1, h1.pl, h1.ql⟩
  have HX1 := hid hX1
  have B0 := hid b0
  have HBS : Hid (b < w1.heap.size) := by
    show _ < _
    have h1 := K1.out.size
    have h2 : wa.drew.heap.size = wa.heap.size := rfl
    have h3 := HF.out.2.1
    omega
  obtain ⟨p3, P3⟩ : ∃ x, Hid (x = wa.heap.size + 1) := ⟨_, rfl⟩
  obtain ⟨q3, Q3⟩ : ∃ x, Hid (x = wa.heap.size) := ⟨_, rfl⟩
  rw [← P3.out, ← Q3.out] at hM3
  rw [← P3.out]
  have HM3 := hid hM3
  clear hM3 hX1 b0 b1 b2 a1 a2 hAA HB K1
  go_wp2
  go_loopw [34] (fun i wr => ∃ k : Nat, k ≤ n ∧ i = .int .i64 k ∧ ∃ y, Mat wr p3 q3 F n c y ∧ (∀ t, t < k * c → y.getD t 0 = (fun i j => z.getD (f i * c + j) 0) (t / c) (t % c)) ∧ Up (One q3) w1 wr) (fun i _ => n - (intOf i).toNat)
  case atStart => exact ⟨0, by omega, rfl, _, HM3.out, fun t ht => by rw [Nat.zero_mul] at ht; exact absurd ht (Nat.not_lt_zero _), Up.refl _ _⟩
  case round =>
    clear HM3
    obtain ⟨k, hk, rfl, y, hy, hyt, hyu⟩ := hrel
    have eq3 := Q3.out
    have hAq : A ≠ q3 := by have := HX1.out.2.2.2.1; omega
    have hbq : b ≠ q3 := by have := HX1.out.2.2.2.2.1; omega
    have hpq : p ≠ q3 := by have := HX1.out.2.2.2.2.2.1; omega
    have hqq : q ≠ q3 := by have := HX1.out.2.2.2.2.2.2; omega
    clear eq3
    by_cases hlt : k < n
    · have hbs : b < w1.heap.size := HBS.out
      have hel := (HX1.out.2.1.up hyu hbs hbq) k hlt
      have hAr := (hyu.cell (p := ⟨A, 0, none⟩) (lt_of_cell B0.out) hAq).trans B0.out
      obtain ⟨fk, FK⟩ : ∃ x, Hid (f k = x) := ⟨_, rfl⟩
      have hel2 : wr.cell? ⟨b, o + k, none⟩ = some (.int .i64 (fk : Int)) := by rw [← FK.out]; exact hel
      have hfr : fk < r := by rw [← FK.out]; exact HG.out k hlt
      have hmr := HX1.out.1.up hyu hpq hqq
      have HM1 : Hid (Mat wr.drew p3 q3 F n c y) := hy.drew
      have HMS : Hid (Mat wr.drew p q F r c z) := hmr.drew
      have HYT := hid hyt
      have HYU := hid hyu
      have hkn : k * c + c ≤ y.length := by
        have := Nat.mul_le_mul_right c (show k + 1 ≤ n from hlt)
        rw [hy.len]
        rw [Nat.add_mul] at this
        omega
      have hzl : fk * c + c ≤ z.length := by
        have := Nat.mul_le_mul_right c (show fk + 1 ≤ r from hfr)
        rw [hmr.len]
        rw [Nat.add_mul] at this
        omega
      have HKN := hid hkn
      have HZL := hid hzl
      clear hy hyt hyu hkn hzl hmr hel
      go_wp2_with fail
      go_region_held3 (fun w' => w'.cell? ⟨A, 0, none⟩ = some (.pointer (some ⟨p, 0, none⟩))) (first | assumption | go_keep)
        ((first
          | (go_at_call 70; (with_reducible refine (row_any p q F r c fk z _ D1.out.2.1 hfr).mono ?_); rintro e wc ⟨rfl, m2, E2⟩; have D2 : Hid (Mat wc p3 q3 F n c y ∧ Mat wc p q F r c z ∧ Up (One q3) wr wc) := (by show Mat wc p3 q3 F n c y ∧ _; rw [E2]; exact ⟨D1.out.1.drewN m2, D1.out.2.1.drewN m2, D1.out.2.2.drewN m2⟩); have d2 : wc.cell? ⟨A, 0, none⟩ = some (.pointer (some ⟨p, 0, none⟩)) := (by rw [E2]; exact d1); clear E2)
          | (go_at_call 70; (with_reducible refine (row_any p3 q3 F n c k y _ HM1.out hlt).mono ?_); rintro e wb ⟨rfl, m1, E1⟩; have D1 : Hid (Mat wb p3 q3 F n c y ∧ Mat wb p q F r c z ∧ Up (One q3) wr wb) := (by show Mat wb p3 q3 F n c y ∧ _; rw [E1]; exact ⟨HM1.out.drewN m1, HMS.out.drewN m1, ((Up.refl _ wr).drew).drewN m1⟩); have d1 : wb.cell? ⟨A, 0, none⟩ = some (.pointer (some ⟨p, 0, none⟩)) := (by rw [E1]; exact hAr); clear E1)
          | ((with_reducible refine step_copy_bytes rfl (.tmp 41) (.tmp 44) rfl q3 (k * c) c c _ q (fk * c) _ y ((z.drop (fk * c)).take c) D2.out.1.blk (D2.out.2.1.blk.row (fk * c) c HZL.out) (rowz_length HZL.out) (Nat.le_refl _) HKN.out rfl rfl ?_); intro wd H1 H2; have d3 := (H2.out.1.cell (p := ⟨A, 0, none⟩) (lt_of_cell d2) hAq).trans d2)))
      go_wp2
      have hfin : Mat wd p3 q3 F n c (over y (k * c) ((z.drop (fk * c)).take c)) := D2.out.1.copied H1.out (over_length (by rw [rowz_length HZL.out]; exact HKN.out)) H2.out.1
      have htold := row_told (f := fun i j => z.getD (f i * c + j) 0) HX1.out.1.c1 (rowz_length HZL.out) HKN.out HYT.out fun j hj => by
        show _ = z.getD (f k * c + j) 0
        rw [FK.out, rowz_at hj]
      have HFI := hid (And.intro hfin (And.intro htold ((HYU.out.trans D2.out.2.2).trans H2.out.1)))
      clear hfin htold
      go_roundw
      case rel => exact ⟨k + 1, by omega, by go_num, _, HFI.out⟩
      case measure => simp [intOf]; omega
    · obtain rfl : n = k := by omega
      have HY := hid (And.intro hy (And.intro hyt hyu))
      clear hy hyt hyu
      go_wp2
      go_ret2
      obtain ⟨y1, y2, y3⟩ := HY.out
      have hu := HX1.out.2.2.1
      have hA := EA.out
      have e1 := P3.out
      have e2 := Q3.out
      have hAw := HX1.out.2.2.2.1
      have hU : Up Nul w wr := ⟨y3.os.trans hu.os, y3.tape.trans hu.tape, y3.output.trans hu.output, Nat.le_trans hu.size y3.size, fun j hj hs => (y3.block j (Nat.lt_of_lt_of_le hj hu.size) (by unfold One; omega)).trans (hu.block j hj hs)⟩
      have hM : Mat wr p3 q3 F n c (pickZ n c z f) := by
        have := eq_tab y1.len y2
        unfold pickZ
        rw [← this]
        exact y1
      have h3 : w.heap.size ≤ p3 := by omega
      have h4 : w.heap.size ≤ q3 := by omega
      first | exact ⟨p3, q3, rfl, hM, hU, h3, h4⟩ | exact ⟨p3, rfl, q3, hM, hU, h3, h4⟩ | exact ⟨p3, rfl, ⟨q3, hM, hU, h4⟩, h3⟩

/-- The cells of the unit, the first k rows of it told. -/
def unitK (n k t : Nat) : Nat := if t / n = t % n ∧ t / n < k then 1 else 0
def unitZ (n : Nat) : List Nat := tab (n * n) fun t => if t / n = t % n then 1 else 0
theorem unitK_zero {n : Nat} (t : Nat) : (zer (n * n)).getD t 0 = unitK n 0 t := by
  rw [zer_at, unitK, if_neg (by omega)]
theorem unitK_next {n k : Nat} {y : List Nat} (hk : k < n) (hl : y.length = n * n) (h : ∀ t, t < n * n → y.getD t 0 = unitK n k t) : ∀ t, t < n * n → (y.set (k * n + k) 1).getD t 0 = unitK n (k + 1) t := by
  have hlt : k * n + k < n * n := by
    have := Nat.mul_le_mul_right n (show k + 1 ≤ n from hk)
    rw [Nat.add_mul] at this
    omega
  intro t ht
  rw [getD_set _ _ _ _ (by rw [hl]; exact hlt)]
  by_cases e : t = k * n + k
  · rw [if_pos e, e]
    unfold unitK
    rw [Nat.mul_comm k n, Nat.mul_add_mod, Nat.mod_eq_of_lt hk, Nat.mul_add_div (by omega), Nat.div_eq_of_lt hk, Nat.add_zero, if_pos ⟨rfl, Nat.lt_succ_self k⟩]
  · rw [if_neg e, h t ht]
    unfold unitK
    by_cases h1 : t / n = t % n ∧ t / n < k
    · rw [if_pos h1, if_pos ⟨h1.1, Nat.lt_succ_of_lt h1.2⟩]
    · rw [if_neg h1, if_neg]
      intro h2
      rcases Nat.lt_or_ge (t / n) k with h3 | h3
      · exact h1 ⟨h2.1, h3⟩
      · have e1 : t / n = k := Nat.le_antisymm (Nat.le_of_lt_succ h2.2) h3
        have h0 := Nat.div_add_mod t n
        rw [← h2.1, e1, Nat.mul_comm] at h0
        exact e h0.symm
theorem unitK_done {n : Nat} {y : List Nat} (hl : y.length = n * n) (hn : 0 < n) (h : ∀ t, t < n * n → y.getD t 0 = unitK n n t) : y = unitZ n := by
  refine eq_tab hl fun t ht => ?_
  rw [h t ht, unitK]
  have : t / n < n := (Nat.div_lt_iff_lt_mul hn).2 ht
  by_cases e : t / n = t % n
  · rw [if_pos ⟨e, this⟩, if_pos e]
  · rw [if_neg (fun h => e h.1), if_neg e]
set_option maxHeartbeats 800000 in
theorem unit_good (F n : Nat) (w : World) (hF : F < w.heap.size) (n1 : 1 ≤ n) (n2 : n ≤ 32) :
    Calls Tryz.prog 58 #[.pointer (some ⟨F, 0, none⟩), .int .i64 n] w fun e w' => e = .returned (.tuple #[.pointer (some ⟨w.heap.size + 1, 0, none⟩), .int .i64 0]) ∧ Mat w' (w.heap.size + 1) w.heap.size F n n (unitZ n) ∧ Up Nul w w' := by
  have H := hid (blank_good F n n w hF n1 n2 n1 n2)
  obtain ⟨p3, P3⟩ : ∃ x, Hid (x = w.heap.size + 1) := ⟨_, rfl⟩
  obtain ⟨q3, Q3⟩ : ∃ x, Hid (x = w.heap.size) := ⟨_, rfl⟩
  rw [← P3.out, ← Q3.out]
  go_enter Tryz.func58, Tryz.ntmps58
  go_wp2_with fail
  refine H.out.mono ?_
  rintro e w1 ⟨rfl, k1⟩
  have hm := k1.mat
  rw [← P3.out, ← Q3.out] at hm
  rw [← P3.out]
  have HM := hid (And.intro hm k1.up)
  clear k1 hm H
  go_wp2
  go_loopw [20] (fun i wr => ∃ k : Nat, k ≤ n ∧ i = .int .i64 k ∧ ∃ y, Mat wr p3 q3 F n n y ∧ Up Nul w wr ∧ ∀ t, t < n * n → y.getD t 0 = unitK n k t) (fun i _ => n - (intOf i).toNat)
  case atStart => exact ⟨0, by omega, rfl, _, HM.out.1, HM.out.2, fun t _ => unitK_zero t⟩
  case round =>
    clear HM
    obtain ⟨k, hk, rfl, y, hy, hu, ht⟩ := hrel
    by_cases hlt : k < n
    · have HR := hid (row_any p3 q3 F n n k y wr hy hlt)
      have hc := hy.blk.cell _ (hy.at hlt hlt)
      have hf := hy.blk.froz (k * n + k)
      have HY := hid (And.intro hy (And.intro hu ht))
      generalize y.getD (k * n + k) 0 = u at hc
      clear hy hu ht
      go_wp2_with fail
      refine HR.out.mono ?_
      rintro e w2 ⟨rfl, m, rfl⟩
      go_wp2
      go_roundw
      case rel => exact ⟨k + 1, by omega, by go_num, _, (HY.out.1.drewN m).set (k * n + k) 1 (by omega), (HY.out.2.1.drewN m).setCell (p := ⟨q3, k * n + k, none⟩) (.inl (by have := Q3.out; show _ ≤ q3; omega)) _, unitK_next hlt HY.out.1.len HY.out.2.2⟩
      case measure => simp [intOf]; omega
    · obtain rfl : n = k := by omega
      have HY := hid (And.intro hy (And.intro hu ht))
      clear hy hu ht
      go_wp2
      go_ret2
      refine ⟨rfl, ?_, HY.out.2.1⟩
      rw [← unitK_done HY.out.1.len (by omega) HY.out.2.2]
      exact HY.out.1

theorem Newed.up {w w' : World} (h : Newed w w') : Up Nul w w' := Up.of_below h.below _
def Fs (FS : List Nat) (k : Nat) : Prop := k ∈ FS
/-- One step: nothing that was there turns but the Fields, and they are Fields still. -/
structure Nxt (FS : List Nat) (w w' : World) : Prop where
  up : Up (Fs FS) w w'
  fld : ∀ F, F ∈ FS → Fld F w'
/-- Where a law stands: its Fields are its own. -/
structure LS (w0 : World) (FS : List Nat) (w : World) : Prop where
  up : Up Nul w0 w
  fld : ∀ F, F ∈ FS → Fld F w
  own : ∀ F, F ∈ FS → w0.heap.size ≤ F
/-- A Matrix of the law's. -/
structure LM (FS : List Nat) (w : World) (p q F r c : Nat) (z : List Nat) : Prop where
  mat : Mat w p q F r c z
  F : F ∈ FS
  p : p ∉ FS
  q : q ∉ FS
/-- A row. -/
structure LR (FS : List Nat) (w : World) (b o : Nat) (z : List Nat) : Prop where
  row : Row w b o z
  lt : b < w.heap.size
  b : b ∉ FS
theorem Nxt.trans {FS : List Nat} {u v w : World} (h : Nxt FS u v) (k : Nxt FS v w) : Nxt FS u w := ⟨h.up.trans k.up, k.fld⟩
theorem LS.lt {w0 w : World} {FS : List Nat} (h : LS w0 FS w) {k : Nat} (hk : w.heap.size ≤ k) : k ∉ FS := fun hm => by have := (h.fld k hm).lt; omega
theorem LS.nxt {w0 w w' : World} {FS : List Nat} (h : LS w0 FS w) (n : Nxt FS w w') : LS w0 FS w' :=
  ⟨⟨n.up.os.trans h.up.os, n.up.tape.trans h.up.tape, n.up.output.trans h.up.output, Nat.le_trans h.up.size n.up.size, fun k hk hs => (n.up.block k (Nat.lt_of_lt_of_le hk h.up.size) fun hm => by have := h.own k hm; omega).trans (h.up.block k hk hs)⟩, n.fld, h.own⟩
theorem LM.nxt {FS : List Nat} {w w' : World} {p q F r c : Nat} {z : List Nat} (h : LM FS w p q F r c z) (n : Nxt FS w w') : LM FS w' p q F r c z := ⟨h.mat.up n.up h.p h.q, h.F, h.p, h.q⟩
theorem LR.nxt {FS : List Nat} {w w' : World} {b o : Nat} {z : List Nat} (h : LR FS w b o z) (n : Nxt FS w w') : LR FS w' b o z := ⟨h.row.up n.up h.lt h.b, Nat.lt_of_lt_of_le h.lt n.up.size, h.b⟩
theorem LS.nul {w0 w w' : World} {FS : List Nat} (h : LS w0 FS w) (u : Up Nul w w') : Nxt FS w w' := ⟨u.nul, fun F hF => (h.fld F hF).up (S := Nul) u id⟩
theorem LS.one {w0 w w' : World} {FS : List Nat} {F : Nat} (h : LS w0 FS w) (hF : F ∈ FS) (u : Up (One F) w w') (f : Fld F w') : Nxt FS w w' :=
  ⟨u.mono fun k _ e => by unfold One at e; subst e; exact hF, fun G hG => by
    by_cases e : G = F
    · subst e; exact f
    · exact (h.fld G hG).up u e⟩
theorem LS.refl {w0 w : World} {FS : List Nat} (h : LS w0 FS w) : Nxt FS w w := h.nul (Up.refl _ _)
theorem LS.alloc {w0 w : World} {FS : List Nat} (h : LS w0 FS w) (o : Obj) : Nxt FS w (w.alloc o) := h.nul ((Up.refl _ _).alloc o)
theorem LS.drewN {w0 w : World} {FS : List Nat} (h : LS w0 FS w) (n : Nat) : Nxt FS w (w.drewN n) := h.nul ((Up.refl _ _).drewN n)
theorem LS.drew {w0 w : World} {FS : List Nat} (h : LS w0 FS w) : Nxt FS w w.drew := h.nul ((Up.refl _ _).drew)
theorem LS.below {w0 w : World} {FS : List Nat} (h : LS w0 FS w) : Below w0.heap.size w0 w := h.up.below (Nat.le_refl _) fun _ _ h => h
theorem LS.start (w : World) : LS w [] w := ⟨Up.refl _ _, fun _ h => (List.not_mem_nil h).elim, fun _ h => (List.not_mem_nil h).elim⟩
/-- A new Field. -/
theorem LS.field {w0 w w' : World} {FS : List Nat} (h : LS w0 FS w) (n : Newed w w') : LS w0 (w.heap.size :: FS) w' :=
  ⟨h.up.trans n.up, fun F hF => by
    rcases List.mem_cons.1 hF with e | hF
    · subst e; exact n.fld
    · exact (h.fld F hF).up (S := Nul) n.up id, fun F hF => by
    rcases List.mem_cons.1 hF with e | hF
    · subst e; exact h.up.size
    · exact h.own F hF⟩
theorem LM.field {FS : List Nat} {w w' : World} {p q F r c : Nat} {z : List Nat} (h : LM FS w p q F r c z) (n : Newed w w') : LM (w.heap.size :: FS) w' p q F r c z :=
  ⟨h.mat.up n.up id id, List.mem_cons_of_mem _ h.F, fun hm => by
    rcases List.mem_cons.1 hm with e | hm
    · have := h.mat.pl; omega
    · exact h.p hm, fun hm => by
    rcases List.mem_cons.1 hm with e | hm
    · have := h.mat.ql; omega
    · exact h.q hm⟩
theorem LR.field {FS : List Nat} {w w' : World} {b o : Nat} {z : List Nat} (h : LR FS w b o z) (n : Newed w w') : LR (w.heap.size :: FS) w' b o z :=
  ⟨h.row.up n.up h.lt id, Nat.lt_of_lt_of_le h.lt n.up.size, fun hm => by
    rcases List.mem_cons.1 hm with e | hm
    · have := h.lt; omega
    · exact h.b hm⟩
theorem newL {w0 w : World} {FS : List Nat} {F r c n b o cap : Nat} {z : List Nat} (h : LS w0 FS w) (hF : F ∈ FS) (r1 : 1 ≤ r) (r2 : r ≤ 32) (c1 : 1 ≤ c) (c2 : c ≤ 32) (hz : LR FS w b o z) (hl : z.length = n) (hn : n = r * c) :
    Calls Tryz.prog 60 #[.pointer (some ⟨F, 0, none⟩), .int .i64 r, .int .i64 c, .slice (some ⟨b, o, none⟩) n cap] w
      fun e w' => ∃ p q, e = .returned (.tuple #[.pointer (some ⟨p, 0, none⟩), .int .i64 0]) ∧ LM FS w' p q F r c z ∧ Nxt FS w w' :=
  (new_good F r c n b o cap z w (h.fld F hF).lt r1 r2 c1 c2 hz.row hz.lt hl hn).mono fun e w' ⟨h1, h2⟩ => ⟨_, _, h1, ⟨h2.mat, hF, h.lt (by omega), h.lt (by omega)⟩, h.nul h2.up⟩
theorem invertL {w0 w : World} {FS : List Nat} {p q F n : Nat} {z : List Nat} (h : LS w0 FS w) (hm : LM FS w p q F n n z) :
    Calls Tryz.prog 69 #[.pointer (some ⟨p, 0, none⟩)] w
      fun e w' => Nxt FS w w' ∧ ((GfM.run n (GfM.beside n (cz n z)) n = none ∧ e = .returned (.tuple #[.pointer none, .int .i64 2])) ∨
        ∃ M p3 q3, GfM.run n (GfM.beside n (cz n z)) n = some M ∧ e = .returned (.tuple #[.pointer (some ⟨p3, 0, none⟩), .int .i64 0]) ∧ LM FS w' p3 q3 F n n (tab (n * n) fun t => GfM.half n M (t / n) (t % n))) := by
  refine (invert_any p q F n z w hm.mat (h.fld F hm.F)).mono ?_
  rintro e w' ⟨h1, h2, h3 | ⟨M, h3, h4, h5⟩⟩
  · exact ⟨h.one hm.F h1 h2, .inl h3⟩
  · exact ⟨h.one hm.F h1 h2, .inr ⟨M, _, _, h3, h4, h5, hm.F, h.lt (by omega), h.lt (by omega)⟩⟩
theorem unitL {w0 w : World} {FS : List Nat} {F n : Nat} (h : LS w0 FS w) (hF : F ∈ FS) (n1 : 1 ≤ n) (n2 : n ≤ 32) :
    Calls Tryz.prog 58 #[.pointer (some ⟨F, 0, none⟩), .int .i64 n] w fun e w' => ∃ p q, e = .returned (.tuple #[.pointer (some ⟨p, 0, none⟩), .int .i64 0]) ∧ LM FS w' p q F n n (unitZ n) ∧ Nxt FS w w' :=
  (unit_good F n w (h.fld F hF).lt n1 n2).mono fun e w' ⟨h1, h2, h3⟩ => ⟨_, _, h1, ⟨h2, hF, h.lt (by omega), h.lt (by omega)⟩, h.nul h3⟩
theorem gfNewL {w0 w : World} {FS : List Nat} (h : LS w0 FS w) : Calls Tryz.prog 8 #[] w fun e w' => e = .returned (.pointer (some ⟨w.heap.size, 0, none⟩)) ∧ Newed w w' := new_any w
/-- A new Field F. -/
structure NewF (w w' : World) (F : Nat) : Prop where
  eq : F = w.heap.size
  n : Newed w w'
theorem LS.newF {w0 w w' : World} {FS : List Nat} {F : Nat} (h : LS w0 FS w) (n : NewF w w' F) : LS w0 (F :: FS) w' := by rw [n.eq]; exact h.field n.n
theorem LM.newF {FS : List Nat} {w w' : World} {p q F r c G : Nat} {z : List Nat} (h : LM FS w p q F r c z) (n : NewF w w' G) : LM (G :: FS) w' p q F r c z := by rw [n.eq]; exact h.field n.n
theorem LR.newF {FS : List Nat} {w w' : World} {b o G : Nat} {z : List Nat} (h : LR FS w b o z) (n : NewF w w' G) : LR (G :: FS) w' b o z := by rw [n.eq]; exact h.field n.n
theorem gfNewF (w : World) : Calls Tryz.prog 8 #[] w fun e w' => ∃ F, e = .returned (.pointer (some ⟨F, 0, none⟩)) ∧ NewF w w' F :=
  (new_any w).mono fun e w' ⟨h1, h2⟩ => ⟨_, h1, rfl, h2⟩
theorem cz_small {n : Nat} {z : List Nat} (h : ∀ x ∈ z, x < 256) : GfM.Small (cz n z) := fun i j => small_getD h _
theorem tab_small {n : Nat} {f : Nat → Nat} (h : ∀ i, f i < 256) : ∀ x ∈ tab n f, x < 256 := by
  intro x hx
  obtain ⟨i, _, rfl⟩ := List.mem_map.1 hx
  exact h i
theorem cz_tab {n : Nat} {f : Nat → Nat → Nat} {i j : Nat} (hi : i < n) (hj : j < n) : cz n (tab (n * n) fun t => f (t / n) (t % n)) i j = f i j := by
  unfold cz
  have hlt : i * n + j < n * n := by
    have := Nat.mul_le_mul_right n (show i + 1 ≤ n from hi)
    rw [Nat.add_mul] at this
    omega
  rw [tab_at _ _ _ hlt, Nat.mul_comm i n, Nat.mul_add_mod, Nat.mod_eq_of_lt hj, Nat.mul_add_div (by omega), Nat.div_eq_of_lt hj, Nat.add_zero]
theorem tab_two {n : Nat} {f g : Nat → Nat → Nat} (h : ∀ i j, i < n → j < n → f i j = g i j) : (tab (n * n) fun t => f (t / n) (t % n)) = tab (n * n) fun t => g (t / n) (t % n) :=
  tab_congr fun t ht => by
    have hn : 0 < n := by
      rcases Nat.eq_zero_or_pos n with e | e
      · subst e; omega
      · exact e
    exact h _ _ ((Nat.div_lt_iff_lt_mul hn).2 ht) (Nat.mod_lt _ hn)
theorem prod_cz {n : Nat} (z z2 : List Nat) : prodZ n n n z z2 = tab (n * n) fun t => GfM.mm n (cz n z) (cz n z2) (t / n) (t % n) :=
  tab_congr fun t ht => GfM.xs_congr fun s hs => by
    unfold colOf cz
    rw [tab_at _ _ _ hs]
theorem unit_cz (n : Nat) : unitZ n = tab (n * n) fun t => GfM.idm (t / n) (t % n) := rfl
theorem z_cz {n : Nat} {z : List Nat} (hl : z.length = n * n) : z = tab (n * n) fun t => cz n z (t / n) (t % n) :=
  eq_tab hl fun t ht => by
    unfold cz
    rw [Nat.mul_comm, Nat.div_add_mod]
/-- A product with the unit. -/
theorem prod_unit {n : Nat} {z : List Nat} (hl : z.length = n * n) (hs : ∀ x ∈ z, x < 256) : prodZ n n n z (unitZ n) = z := by
  rw [prod_cz, unit_cz]
  conv => rhs; rw [z_cz hl]
  exact tab_two fun i j hi hj => by
    rw [GfM.mm_congr (A' := cz n z) (B' := GfM.idm) (fun _ _ => rfl) fun s hs => cz_tab hs hj]
    exact GfM.mm_id (cz_small hs) hj
theorem unit_prod {n : Nat} {z : List Nat} (hl : z.length = n * n) (hs : ∀ x ∈ z, x < 256) : prodZ n n n (unitZ n) z = z := by
  rw [prod_cz, unit_cz]
  conv => rhs; rw [z_cz hl]
  exact tab_two fun i j hi hj => by
    rw [GfM.mm_congr (A' := GfM.idm) (B' := cz n z) (fun s hs => cz_tab hi hs) fun _ _ => rfl]
    exact GfM.id_mm (cz_small hs) hi
/-- The inverse's cells. -/
def invZ (n : Nat) (M : GfM.Mx) : List Nat := tab (n * n) fun t => GfM.half n M (t / n) (t % n)
theorem invZ_length (n : Nat) (M : GfM.Mx) : (invZ n M).length = n * n := tab_length _ _
theorem prod_inv {n : Nat} {z : List Nat} {M : GfM.Mx} (hs : ∀ x ∈ z, x < 256) (h : GfM.run n (GfM.beside n (cz n z)) n = some M) : prodZ n n n z (invZ n M) = unitZ n := by
  rw [prod_cz, unit_cz]
  exact tab_two fun i j hi hj => by
    exact (GfM.mm_congr (A' := cz n z) (B' := GfM.half n M) (fun _ _ => rfl) fun s hs => cz_tab hs hj).trans ((GfM.run_inverse (cz_small hs) h).2.1 i j hi hj)
theorem inv_prod {n : Nat} {z : List Nat} {M : GfM.Mx} (hs : ∀ x ∈ z, x < 256) (h : GfM.run n (GfM.beside n (cz n z)) n = some M) : prodZ n n n (invZ n M) z = unitZ n := by
  rw [prod_cz, unit_cz]
  exact tab_two fun i j hi hj => by
    exact (GfM.mm_congr (A' := GfM.half n M) (B' := cz n z) (fun s hs => cz_tab hi hs) fun _ _ => rfl).trans ((GfM.run_inverse (cz_small hs) h).2.2 i j hi hj)
/-- Inverted twice. -/
theorem inv_inv {n : Nat} {z : List Nat} {M : GfM.Mx} (hl : z.length = n * n) (hs : ∀ x ∈ z, x < 256) (h : GfM.run n (GfM.beside n (cz n z)) n = some M) :
    ∃ M2, GfM.run n (GfM.beside n (cz n (invZ n M))) n = some M2 ∧ invZ n M2 = z := by
  obtain ⟨a1, a2, a3⟩ := GfM.run_inverse (cz_small hs) h
  have b1 : GfM.Small (cz n (invZ n M)) := cz_small (tab_small fun t => a1 _ _)
  have e1 : ∀ i j, i < n → j < n → GfM.mm n (cz n z) (cz n (invZ n M)) i j = GfM.idm i j := fun i j hi hj => by
    exact (GfM.mm_congr (A' := cz n z) (B' := GfM.half n M) (fun _ _ => rfl) fun s hs => cz_tab hs hj).trans (a2 i j hi hj)
  cases hr : GfM.run n (GfM.beside n (cz n (invZ n M))) n with
  | none => exact absurd hr (GfM.run_ne_none b1 e1)
  | some M2 =>
    obtain ⟨c1, c2, c3⟩ := GfM.run_inverse b1 hr
    refine ⟨M2, rfl, ?_⟩
    conv => rhs; rw [z_cz hl]
    exact tab_two fun i j hi hj => (GfM.inverse_one (cz_small hs) c1 e1 c2 hi hj).symm
namespace GfM

instance : Std.Associative mul := ⟨mul_assoc⟩
instance : Std.Commutative mul := ⟨mul_comm⟩
theorem xor_mul {x y : Nat} (hx : x < 256) (hy : y < 256) (a : Nat) : mul (x ^^^ y) a = mul x a ^^^ mul y a := by
  rw [mul_comm, mul_xor a hx hy, mul_comm a x, mul_comm a y]
theorem xor_ne {x y : Nat} (h : x ≠ y) : x ^^^ y ≠ 0 := fun e => h (xor_eq_zero e)
theorem xor_mid (a b c : Nat) : a ^^^ c = (a ^^^ b) ^^^ (b ^^^ c) := by
  rw [Nat.xor_assoc, ← Nat.xor_assoc b b c, Nat.xor_self, Nat.zero_xor]
theorem cauchy_ker (n : Nat) : ∀ (a b x : Nat → Nat), (∀ i, a i < 256) → (∀ i, b i < 256) → (∀ i, x i < 256) → (∀ i j, i < n → j < n → a i = a j → i = j) → (∀ i j, i < n → j < n → b i = b j → i = j) →
    (∀ i j, i < n → j < n → a i ≠ b j) → (∀ i, i < n → xs n (fun j => mul (inv (a i ^^^ b j)) (x j)) = 0) → ∀ j, j < n → x j = 0 := by
  induction n with
  | zero => intro a b x _ _ _ _ _ _ _ j hj; omega
  | succ n ih =>
    intro a b x ha hb hx ia ib hab hz
    have d8 : ∀ i j, a i ^^^ b j < 256 := fun i j => xor_lt (ha i) (hb j)
    have d0 : ∀ i j, i < n + 1 → j < n + 1 → a i ^^^ b j ≠ 0 := fun i j hi hj => xor_ne (hab i j hi hj)
    -- each row, times its sum with the last column's byte
    have hT : ∀ i, i < n + 1 → xs n (fun j => mul (b n ^^^ b j) (mul (inv (a i ^^^ b j)) (x j))) = xs (n + 1) x := by
      intro i hi
      have h1 : mul (a i ^^^ b n) (xs (n + 1) fun j => mul (inv (a i ^^^ b j)) (x j)) = 0 := by rw [hz i hi, mul_zero]
      rw [mul_xs _ fun _ _ => mul_lt _ _] at h1
      have h2 : ∀ j, j < n + 1 → mul (a i ^^^ b n) (mul (inv (a i ^^^ b j)) (x j)) = x j ^^^ mul (b n ^^^ b j) (mul (inv (a i ^^^ b j)) (x j)) := by
        intro j hj
        rw [xor_mid (a i) (b j) (b n), xor_mul (d8 i j) (xor_lt (hb j) (hb n)), ← mul_assoc (a i ^^^ b j), mul_inv (d0 i j hi hj) (d8 i j), one_mul (hx j), Nat.xor_comm (b j) (b n)]
      rw [xs_congr h2, xs_xor] at h1
      have h3 := xor_eq_zero h1
      rw [h3]
      show _ = xs n _ ^^^ mul (b n ^^^ b n) _
      rw [Nat.xor_self, zero_mul, Nat.xor_zero]
    have hy : ∀ j, j < n → mul (x j) (mul (b n ^^^ b j) (inv (a n ^^^ b j))) = 0 := by
      refine ih a b (fun j => mul (x j) (mul (b n ^^^ b j) (inv (a n ^^^ b j)))) ha hb (fun _ => mul_lt _ _) (fun i j hi hj e => ia i j (by omega) (by omega) e) (fun i j hi hj e => ib i j (by omega) (by omega) e) (fun i j hi hj => hab i j (by omega) (by omega)) fun i hi => ?_
      have h1 : xs n (fun j => mul (b n ^^^ b j) (mul (inv (a i ^^^ b j)) (x j))) ^^^ xs n (fun j => mul (b n ^^^ b j) (mul (inv (a n ^^^ b j)) (x j))) = 0 := by
        rw [hT i (by omega), hT n (by omega), Nat.xor_self]
      rw [← xs_xor] at h1
      have hA : a i ^^^ a n ≠ 0 := xor_ne fun e => by have := ia i n (by omega) (by omega) e; omega
      have h2 : ∀ j, j < n → mul (b n ^^^ b j) (mul (inv (a i ^^^ b j)) (x j)) ^^^ mul (b n ^^^ b j) (mul (inv (a n ^^^ b j)) (x j)) = mul (a i ^^^ a n) (mul (inv (a i ^^^ b j)) (mul (x j) (mul (b n ^^^ b j) (inv (a n ^^^ b j))))) := by
        intro j hj
        have e1 : mul (a i ^^^ b j) (inv (a i ^^^ b j)) = 1 := mul_inv (d0 i j (by omega) (by omega)) (d8 i j)
        have e2 : mul (a n ^^^ b j) (inv (a n ^^^ b j)) = 1 := mul_inv (d0 n j (by omega) (by omega)) (d8 n j)
        rw [xor_mid (a i) (b j) (a n), xor_mul (d8 i j) (xor_lt (hb j) (ha n)), Nat.xor_comm (b j) (a n)]
        have f1 : mul (a i ^^^ b j) (mul (inv (a i ^^^ b j)) (mul (x j) (mul (b n ^^^ b j) (inv (a n ^^^ b j))))) = mul (b n ^^^ b j) (mul (inv (a n ^^^ b j)) (x j)) := by
          rw [← mul_assoc (a i ^^^ b j), e1, one_mul (mul_lt _ _)]
          ac_rfl
        have f2 : mul (a n ^^^ b j) (mul (inv (a i ^^^ b j)) (mul (x j) (mul (b n ^^^ b j) (inv (a n ^^^ b j))))) = mul (b n ^^^ b j) (mul (inv (a i ^^^ b j)) (x j)) := by
          have : mul (a n ^^^ b j) (mul (inv (a i ^^^ b j)) (mul (x j) (mul (b n ^^^ b j) (inv (a n ^^^ b j))))) = mul (mul (a n ^^^ b j) (inv (a n ^^^ b j))) (mul (b n ^^^ b j) (mul (inv (a i ^^^ b j)) (x j))) := by ac_rfl
          rw [this, e2, one_mul (mul_lt _ _)]
        rw [f1, f2, Nat.xor_comm]
      rw [xs_congr h2, ← mul_xs _ fun _ _ => mul_lt _ _] at h1
      exact mul_eq_zero hA h1
    have hx0 : ∀ j, j < n → x j = 0 := by
      intro j hj
      have h1 := hy j hj
      rw [mul_comm] at h1
      refine mul_eq_zero (mul_pos (xor_ne fun e => ?_) (inv_pos (d0 n j (by omega) (by omega)))) h1
      have := ib n j (by omega) (by omega) e
      omega
    intro j hj
    rcases Nat.lt_or_ge j n with h | h
    · exact hx0 j h
    · obtain rfl : j = n := by omega
      have h1 := hz j (by omega)
      rw [xs, xs_zero fun s hs => by rw [hx0 s hs, mul_zero], Nat.zero_xor] at h1
      exact mul_eq_zero (inv_pos (d0 j j (by omega) (by omega))) h1

theorem nodup_le : ∀ (l l' : List Nat), l.Nodup → (∀ a ∈ l, a ∈ l') → l.length ≤ l'.length
  | [], _, _, _ => Nat.zero_le _
  | a :: l, l', nd, h => by
    have ha := h a (List.mem_cons_self ..)
    have h1 : ∀ b ∈ l, b ∈ l'.erase a := fun b hb => (List.mem_erase_of_ne (by rintro rfl; exact (List.nodup_cons.1 nd).1 hb)).2 (h b (List.mem_cons_of_mem _ hb))
    have h2 := nodup_le l (l'.erase a) (List.nodup_cons.1 nd).2 h1
    have e := List.length_erase_of_mem ha
    have h3 : 0 < l'.length := List.length_pos_of_mem ha
    simp only [List.length_cons]
    omega
/-- The sum over some places. -/
def xl (l : List Nat) (f : Nat → Nat) : Nat := l.foldr (fun s a => f s ^^^ a) 0
theorem xl_cons (s : Nat) (l : List Nat) (f : Nat → Nat) : xl (s :: l) f = f s ^^^ xl l f := rfl
end GfM
end Go.Proofs.YtmaffnadmfphpaaGreat
