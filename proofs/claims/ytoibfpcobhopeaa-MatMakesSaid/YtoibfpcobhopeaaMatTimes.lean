/- 'Times', 'Mul' of a Matrix. -/
import Derived.Test.YtoibfpcobhopeaaMatMake
import Derived.Test.YtoibfpcobhopeaaMatMath
namespace Go.Proofs.Ytoibfpcobhopeaa
open Go.RowKit
set_option linter.unusedVariables false

theorem dotk_xs (z1 z2 : List Nat) (k : Nat) : dotk z1 z2 k = GfM.xs k fun s => GfM.mul (z1.getD s 0) (z2.getD s 0) := by
  induction k with
  | zero => rfl
  | succ k ih => rw [dotk, GfM.xs, ih]
/-- Dot over two rows of one length. -/
theorem dot_eq (B b1 o1 c1 b2 o2 c2 n : Nat) (z1 z2 : List Nat) (w : World) (hf : Fld B w) (r1 : Row w b1 o1 z1) (r2 : Row w b2 o2 z2) (n1 : b1 ≠ B) (n2 : b2 ≠ B) (l1 : z1.length = n) (l2 : z2.length = n) (hn : n ≤ 2000) :
    Calls Try.prog 33 #[.pointer (some ⟨B, 0, none⟩), .slice (some ⟨b1, o1, none⟩) n c1, .slice (some ⟨b2, o2, none⟩) n c2] w
      fun e w' => e = .returned (.int .u8 (dotk z1 z2 n)) ∧ Kept B w w' := by
  have := dot_rows B b1 o1 c1 b2 o2 c2 z1 z2 w hf r1 r2 n1 n2 (by omega) (by omega)
  rw [l1, l2, Nat.min_self] at this
  exact this
theorem rowz_length {z : List Nat} {o n : Nat} (h : o + n ≤ z.length) : ((z.drop o).take n).length = n := by simp; omega
theorem rowz_at {z : List Nat} {o n s : Nat} (h : s < n) : ((z.drop o).take n).getD s 0 = z.getD (o + s) 0 := by
  simp [List.getD_eq_getElem?_getD, h, List.getElem?_drop]

/-- A row of numbers told by Dots: where a walk that fills block g stands. -/
structure Wk (w : World) (p q F r c : Nat) (z : List Nat) (g : Nat) (y : List Nat) (b2 o2 : Nat) (z2 : List Nat) (wr : World) : Prop where
  mat : Mat wr p q F r c z
  blk : Blk wr g y
  row2 : Row wr b2 o2 z2
  lt2 : b2 < wr.heap.size
  up : Up (One F) w wr
  fld : Fld F wr
  gF : g ≠ F
  gp : g ≠ p
  gq : g ≠ q
  g2 : b2 ≠ g
  F2 : b2 ≠ F
  gw : w.heap.size ≤ g
theorem Wk.drewN {w wr : World} {p q F r c g b2 o2 : Nat} {z y z2 : List Nat} (h : Wk w p q F r c z g y b2 o2 z2 wr) (n : Nat) : Wk w p q F r c z g y b2 o2 z2 (wr.drewN n) :=
  { h with mat := h.mat.drewN n, blk := h.blk.drewN n, row2 := ⟨h.row2.cells, h.row2.small⟩, lt2 := h.lt2, up := h.up.drewN n, fld := h.fld.drewN n }
theorem Wk.drew {w wr : World} {p q F r c g b2 o2 : Nat} {z y z2 : List Nat} (h : Wk w p q F r c z g y b2 o2 z2 wr) : Wk w p q F r c z g y b2 o2 z2 wr.drew := h.drewN 1
theorem Wk.kept {w wr w' : World} {p q F r c g b2 o2 : Nat} {z y z2 : List Nat} (h : Wk w p q F r c z g y b2 o2 z2 wr) (k : Kept F wr w') : Wk w p q F r c z g y b2 o2 z2 w' :=
  { h with mat := h.mat.kept k, blk := h.blk.up (Up.of_out k.1) h.gF, row2 := h.row2.of_out k.1 h.F2, lt2 := by rw [k.1.size]; exact h.lt2, up := h.up.trans (Up.of_out k.1), fld := k.2 }
theorem Wk.set {w wr : World} {p q F r c g b2 o2 : Nat} {z y z2 : List Nat} (h : Wk w p q F r c z g y b2 o2 z2 wr) (i v : Nat) (hv : v < 256) : Wk w p q F r c z g (y.set i v) b2 o2 z2 (wr.setCell ⟨g, i, none⟩ (.int .u8 v)) :=
  { h with mat := h.mat.other (a := ⟨g, i, none⟩) (fun e => h.gp e.symm) (fun e => h.gq e.symm) _, blk := h.blk.set i v hv
           row2 := ⟨fun j hj => by rw [World.cell?_setCell_other _ _ _ _ (by intro e; have := congrArg Addr.block e; simp at this; have := h.g2; omega)]; exact h.row2.cells j hj, h.row2.small⟩
           lt2 := by simpa using h.lt2, up := h.up.setCell (p := ⟨g, i, none⟩) (.inl h.gw) _, fld := h.fld.up (S := One g) ((Up.refl _ _).setCell (p := ⟨g, i, none⟩) (.inr (show One g g from rfl)) _) fun e => h.gF e.symm }

theorem far_cell {p g j k : Nat} (w : World) (v : Value) (h : p ≠ g) : (w.setCell ⟨g, k, none⟩ v).cell? ⟨p, j, none⟩ = w.cell? ⟨p, j, none⟩ :=
  World.cell?_setCell_other _ _ _ _ (by intro e; have := congrArg Addr.block e; simp at this; omega)

/-- The sums of products of row i with z2. -/
def sumAt (c : Nat) (z z2 : List Nat) (i : Nat) : Nat := GfM.xs c fun s => GfM.mul (z.getD (i * c + s) 0) (z2.getD s 0)
theorem dotk_sumAt {c i : Nat} {z z2 : List Nat} : dotk ((z.drop (i * c)).take c) z2 c = sumAt c z z2 i := by
  rw [dotk_xs]
  exact GfM.xs_congr fun s hs => by rw [rowz_at hs]
theorem sumAt_lt (c : Nat) (z z2 : List Nat) (i : Nat) : sumAt c z z2 i < 256 := GfM.xs_lt fun _ _ => GfM.mul_lt _ _

theorem times_bad (p q F r c n cap : Nat) (a : Option Addr) (z : List Nat) (w : World) (hm : Mat w p q F r c z) (hn : n ≠ c) :
    Calls Try.prog 22 #[.pointer (some ⟨p, 0, none⟩), .slice a n cap] w fun e w' => e = .returned (.tuple #[.slice none 0 0, .int .i64 1]) ∧ w' = w := by
  have h2 := hm.cols
  have hd : ((n : Int) == (c : Int)) = false := by simp; omega
  have hd2 : ((n : Int) != (c : Int)) = true := by simp; omega
  clear hm hn
  go_enter Try.func22, Try.ntmps22
  go_wp2
  go_ret2
  exact ⟨rfl, rfl⟩

set_option maxRecDepth 100000 in
set_option maxHeartbeats 800000 in
theorem times_good (p q F r c b2 o2 cap : Nat) (z z2 : List Nat) (w : World) (hm : Mat w p q F r c z) (hf : Fld F w) (h2 : Row w b2 o2 z2) (hl : z2.length = c) (hb : b2 < w.heap.size) (hbF : b2 ≠ F) :
    Calls Try.prog 22 #[.pointer (some ⟨p, 0, none⟩), .slice (some ⟨b2, o2, none⟩) c cap] w
      fun e w' => e = .returned (.tuple #[.slice (some ⟨w.heap.size, 0, none⟩) r r, .int .i64 0]) ∧ Blk w' w.heap.size (tab r fun i => sumAt c z z2 i) ∧ Up (One F) w w' ∧ Fld F w' := by
  have m1 := hm.rows
  have m2 := hm.cols
  have hr := hm.r32
  have hc := hm.c32
  have hmk := make_bytes w r (by omega)
  have HW : Hid (Wk w p q F r c z w.heap.size (zer r) b2 o2 z2 (w.alloc (.cells (bys (zer r)) 5))) := by
    have a1 := hm.pl
    have a2 := hm.ql
    have a3 := hf.lt
    exact ⟨hm.alloc _, Blk.new w _ (zer_small r), h2.up ((Up.refl Nul w).alloc _) hb id, by simp; omega, (Up.refl _ w).alloc _, hf.alloc _, by omega, by omega, by omega, by omega, hbF, Nat.le_refl _⟩
  have HL := hid hl
  have HMl := hid hm
  generalize w.alloc (.cells (bys (zer r)) 5) = w0 at *
  clear hm hf h2 hl hb hbF
  go_enter Try.func22, Try.ntmps22
  go_wp2
  generalize HG : w.heap.size = g at *
  go_loopw [22] (fun i wr => ∃ k : Nat, k ≤ r ∧ i = .int .i64 k ∧ ∃ y, Wk w p q F r c z g y b2 o2 z2 wr ∧ y.length = r ∧ ∀ i, i < k → y.getD i 0 = sumAt c z z2 i) (fun i _ => r - (intOf i).toNat)
  case atStart => exact ⟨0, by omega, rfl, _, HW.out, zer_length _, fun _ h => absurd h (Nat.not_lt_zero _)⟩
  case round =>
    obtain ⟨k, hk, rfl, y, hy, hyl, hyt⟩ := hrel
    by_cases hlt : k < r
    · have s0 := hy.mat.f
      have HM1 := hid hy.mat.drew
      have HY := hid hy
      have HYL := hid hyl
      have HYT := hid hyt
      have i1 : (0 : Int) ≤ (k : Int) := by omega
      have i2 : (k : Int) < (r : Int) := by omega
      have hpg : p ≠ g := fun e => hy.gp e.symm
      obtain ⟨v, V⟩ : ∃ v, Hid (sumAt c z z2 k = v) := ⟨_, rfl⟩
      have v8 : v < 256 := by rw [← V.out]; exact sumAt_lt _ _ _ _
      have hzl : k * c + c ≤ z.length := by
        have := Nat.mul_le_mul_right c (show k + 1 ≤ r from hlt)
        rw [hy.mat.len]
        rw [Nat.add_mul] at this
        omega
      have HZL := hid (rowz_length hzl)
      have HZ2 := hid hzl
      clear hy hyl hyt hzl
      go_wp2_with fail
      go_region_held3 (fun w' => w'.cell? ⟨p, 0, none⟩ = some (.pointer (some ⟨F, 0, none⟩))) (first | assumption | exact (far_cell _ _ hpg).trans (by assumption) | go_keep)
        ((first
          | (go_at_call 31; (with_reducible refine (row_any p q F r c k z _ HM1.out hlt).mono ?_); rintro e w1 ⟨rfl, m1, E1⟩; have D1 : Hid (Wk w p q F r c z g y b2 o2 z2 w1) := (by show Wk w p q F r c z g y b2 o2 z2 w1; rw [E1]; exact HY.out.drew.drewN m1); have s1 := D1.out.mat.f; clear E1)
          | (go_at_call 33; (with_reducible refine (dot_eq F q (k * c) _ b2 o2 _ c _ z2 _ D1.out.fld (D1.out.mat.blk.row (k * c) c HZ2.out) D1.out.row2 D1.out.mat.qF D1.out.F2 HZL.out HL.out (by omega)).mono ?_); rintro e w2 ⟨he, k2⟩; rw [dotk_sumAt, V.out] at he; subst he; have D2 := hid (D1.out.kept k2); clear k2; have s2 := D2.out.mat.f; have t2 := D2.out.blk.cell k (by rw [HYL.out]; exact hlt); have t3 := D2.out.blk.froz k)))
      go_wp2
      go_roundw
      case rel => exact ⟨k + 1, by omega, by go_num, _, D2.out.set k v v8, by rw [List.length_set]; exact HYL.out, fun i hi => by
        rw [getD_set _ _ _ _ (by rw [HYL.out]; exact hlt)]
        split
        · next e => rw [e, V.out]
        · exact HYT.out i (by omega)⟩
      case measure => simp [intOf]; omega
    · obtain rfl : r = k := by omega
      have HY := hid (And.intro hy (And.intro hyl hyt))
      clear hy hyl hyt
      go_wp2
      go_ret2
      subst HG
      refine ⟨rfl, ?_, HY.out.1.up, HY.out.1.fld⟩
      rw [← eq_tab HY.out.2.1 HY.out.2.2]
      exact HY.out.1.blk

theorem mul_nil (p q F r c : Nat) (z : List Nat) (w : World) (hm : Mat w p q F r c z) :
    Calls Try.prog 13 #[.pointer (some ⟨p, 0, none⟩), .pointer none] w fun e w' => e = .returned (.tuple #[.pointer none, .int .i64 1]) ∧ ∃ n, w' = w.drewN n := by
  clear hm
  go_enter Try.func13, Try.ntmps13
  go_wp2
  go_quiet (fail)
  go_wp2
  go_ret2
  exact ⟨rfl, _, rfl⟩
theorem mul_bad (p q F r c p2 q2 F2 r2 c2 : Nat) (z z2 : List Nat) (w : World) (hm : Mat w p q F r c z) (h2 : Mat w p2 q2 F2 r2 c2 z2) (hn : r2 ≠ c) :
    Calls Try.prog 13 #[.pointer (some ⟨p, 0, none⟩), .pointer (some ⟨p2, 0, none⟩)] w fun e w' => e = .returned (.tuple #[.pointer none, .int .i64 1]) ∧ ∃ n, w' = w.drewN n := by
  have m1 := hm.cols
  have m2 := h2.rows
  have hd : ((r2 : Int) == (c : Int)) = false := by simp; omega
  have hd2 : ((r2 : Int) != (c : Int)) = true := by simp; omega
  clear hm h2 hn
  go_enter Try.func13, Try.ntmps13
  go_wp2
  go_quiet (fail)
  go_wp2
  go_ret2
  exact ⟨rfl, _, rfl⟩

/-- The cells of a product, row by row. -/
def prodZ (r k c : Nat) (z z2 : List Nat) : List Nat := tab (r * c) fun t => sumAt k z (colOf k c (t % c) z2) (t / c)
/-- A product that is being told. -/
structure Mk (w : World) (p q F r c : Nat) (z : List Nat) (p2 q2 F2 c2 : Nat) (z2 : List Nat) (p3 q3 : Nat) (y : List Nat) (wr : World) : Prop where
  mat : Mat wr p q F r c z
  mat2 : Mat wr p2 q2 F2 c c2 z2
  mat3 : Mat wr p3 q3 F r c2 y
  up : Up (One F) w wr
  fld : Fld F wr
  own3 : w.heap.size ≤ q3
  far : p ≠ q3 ∧ q ≠ q3 ∧ p2 ≠ q3 ∧ q2 ≠ q3
  far2 : p2 ≠ F ∧ q2 ≠ F
theorem Mk.drewN {w wr : World} {p q F r c p2 q2 F2 c2 p3 q3 : Nat} {z z2 y : List Nat} (h : Mk w p q F r c z p2 q2 F2 c2 z2 p3 q3 y wr) (n : Nat) : Mk w p q F r c z p2 q2 F2 c2 z2 p3 q3 y (wr.drewN n) :=
  { h with mat := h.mat.drewN n, mat2 := h.mat2.drewN n, mat3 := h.mat3.drewN n, up := h.up.drewN n, fld := h.fld.drewN n }
theorem Mk.nul {w wr w' : World} {p q F r c p2 q2 F2 c2 p3 q3 : Nat} {z z2 y : List Nat} (h : Mk w p q F r c z p2 q2 F2 c2 z2 p3 q3 y wr) (u : Up Nul wr w') : Mk w p q F r c z p2 q2 F2 c2 z2 p3 q3 y w' :=
  { h with mat := h.mat.up u id id, mat2 := h.mat2.up u id id, mat3 := h.mat3.up u id id, up := h.up.trans u.nul, fld := h.fld.up u id }
theorem Mk.kept {w wr w' : World} {p q F r c p2 q2 F2 c2 p3 q3 : Nat} {z z2 y : List Nat} (h : Mk w p q F r c z p2 q2 F2 c2 z2 p3 q3 y wr) (k : Kept F wr w') : Mk w p q F r c z p2 q2 F2 c2 z2 p3 q3 y w' :=
  { h with mat := h.mat.kept k, mat2 := h.mat2.up (Up.of_out k.1) h.far2.1 h.far2.2, mat3 := h.mat3.kept k, up := h.up.trans (Up.of_out k.1), fld := k.2 }
theorem Mk.set {w wr : World} {p q F r c p2 q2 F2 c2 p3 q3 : Nat} {z z2 y : List Nat} (h : Mk w p q F r c z p2 q2 F2 c2 z2 p3 q3 y wr) (i v : Nat) (hv : v < 256) : Mk w p q F r c z p2 q2 F2 c2 z2 p3 q3 (y.set i v) (wr.setCell ⟨q3, i, none⟩ (.int .u8 v)) :=
  { h with mat := h.mat.other (a := ⟨q3, i, none⟩) h.far.1 h.far.2.1 _, mat2 := h.mat2.other (a := ⟨q3, i, none⟩) h.far.2.2.1 h.far.2.2.2 _, mat3 := h.mat3.set i v hv, up := h.up.setCell (p := ⟨q3, i, none⟩) (.inl h.own3) _
           fld := h.fld.up (S := One q3) ((Up.refl _ _).setCell (p := ⟨q3, i, none⟩) (.inr (show One q3 q3 from rfl)) _) fun e => h.mat3.qF e.symm }
/-- One with a column at hand. -/
structure Mkc (w : World) (p q F r c : Nat) (z : List Nat) (p2 q2 F2 c2 : Nat) (z2 : List Nat) (p3 q3 : Nat) (y : List Nat) (g : Nat) (col : List Nat) (wr : World) : Prop where
  m : Mk w p q F r c z p2 q2 F2 c2 z2 p3 q3 y wr
  col : Blk wr g col
  gF : g ≠ F
  g3 : g ≠ q3
theorem Mkc.drewN {w wr : World} {p q F r c p2 q2 F2 c2 p3 q3 g : Nat} {z z2 y col : List Nat} (h : Mkc w p q F r c z p2 q2 F2 c2 z2 p3 q3 y g col wr) (n : Nat) : Mkc w p q F r c z p2 q2 F2 c2 z2 p3 q3 y g col (wr.drewN n) := { h with m := h.m.drewN n, col := h.col.drewN n }
theorem Mkc.kept {w wr w' : World} {p q F r c p2 q2 F2 c2 p3 q3 g : Nat} {z z2 y col : List Nat} (h : Mkc w p q F r c z p2 q2 F2 c2 z2 p3 q3 y g col wr) (k : Kept F wr w') : Mkc w p q F r c z p2 q2 F2 c2 z2 p3 q3 y g col w' := { h with m := h.m.kept k, col := h.col.up (Up.of_out k.1) h.gF }
theorem Mkc.set {w wr : World} {p q F r c p2 q2 F2 c2 p3 q3 g : Nat} {z z2 y col : List Nat} (h : Mkc w p q F r c z p2 q2 F2 c2 z2 p3 q3 y g col wr) (i v : Nat) (hv : v < 256) : Mkc w p q F r c z p2 q2 F2 c2 z2 p3 q3 (y.set i v) g col (wr.setCell ⟨q3, i, none⟩ (.int .u8 v)) :=
  { h with m := h.m.set i v hv, col := h.col.other (p := ⟨q3, i, none⟩) h.g3 _ }

/-- What of a product has been told: the columns ahead of j, and of column j the first i. -/
def ToldC (n c2 j i : Nat) (f : Nat → Nat) (y : List Nat) : Prop := ∀ t, t < n → (t % c2 < j ∨ (t % c2 = j ∧ t / c2 < i)) → y.getD t 0 = f t
theorem ToldC.next {r c2 j i v : Nat} {f : Nat → Nat} {y : List Nat} (h : ToldC (r * c2) c2 j i f y) (hi : i < r) (hj : j < c2) (hl : y.length = r * c2) (hv : f (i * c2 + j) = v) : ToldC (r * c2) c2 j (i + 1) f (y.set (i * c2 + j) v) := by
  have hlt : i * c2 + j < r * c2 := by
    have := Nat.mul_le_mul_right c2 (show i + 1 ≤ r from hi)
    rw [Nat.add_mul] at this
    omega
  intro t ht hd
  rw [getD_set _ _ _ _ (by rw [hl]; exact hlt)]
  by_cases e : t = i * c2 + j
  · rw [if_pos e, e, hv]
  · rw [if_neg e]
    refine h t ht ?_
    rcases hd with hd | ⟨hd1, hd2⟩
    · exact .inl hd
    · refine .inr ⟨hd1, ?_⟩
      have h0 := Nat.div_add_mod t c2
      rcases Nat.lt_or_ge (t / c2) i with h1 | h1
      · exact h1
      · have hq : t / c2 = i := Nat.le_antisymm (Nat.le_of_lt_succ hd2) h1
        rw [hd1, hq, Nat.mul_comm] at h0
        exact absurd h0.symm e
theorem ToldC.col {r c2 j : Nat} {f : Nat → Nat} {y : List Nat} (h : ToldC (r * c2) c2 j r f y) (hc : 0 < c2) : ToldC (r * c2) c2 (j + 1) 0 f y := by
  intro t ht hd
  refine h t ht ?_
  rcases hd with hd | ⟨hd1, hd2⟩
  · rcases Nat.lt_or_ge (t % c2) j with h1 | h1
    · exact .inl h1
    · exact .inr ⟨by omega, (Nat.div_lt_iff_lt_mul hc).2 ht⟩
  · exact absurd hd2 (Nat.not_lt_zero _)

set_option maxRecDepth 100000 in
set_option maxHeartbeats 1600000 in
theorem mul_good (p q F r c p2 q2 F2 c2 : Nat) (z z2 : List Nat) (w : World) (hm : Mat w p q F r c z) (h2 : Mat w p2 q2 F2 c c2 z2) (hf : Fld F w) (f2 : p2 ≠ F ∧ q2 ≠ F) :
    Calls Try.prog 13 #[.pointer (some ⟨p, 0, none⟩), .pointer (some ⟨p2, 0, none⟩)] w
      fun e w' => e = .returned (.tuple #[.pointer (some ⟨w.heap.size + 1, 0, none⟩), .int .i64 0]) ∧ Mat w' (w.heap.size + 1) w.heap.size F r c2 (prodZ r c c2 z z2) ∧ Up (One F) w w' ∧ Fld F w' := by
  have s1 := hm.f
  have s2 := hm.rows
  have s3 := h2.cols
  have s4 := hm.cols
  have s5 := h2.rows
  have HM := hid hm
  have H2 := hid h2
  have HF := hid hf
  have FF := hid f2
  have hlr := hm.r32
  have hlc := h2.c32
  have hlc2 := h2.r32
  clear hm h2 hf f2
  go_enter Try.func13, Try.ntmps13
  go_wp2_with fail
  go_quiet (fail)
  obtain ⟨wa, WA⟩ : ∃ x, x = w.drewN nq := ⟨_, rfl⟩
  rw [← WA]
  have a1 : wa.cell? ⟨p, 0, none⟩ = some (.pointer (some ⟨F, 0, none⟩)) := by rw [WA]; exact s1
  have a2 : wa.cell? ⟨p, 1, none⟩ = some (.int .i64 r) := by rw [WA]; exact s2
  have a3 : wa.cell? ⟨p2, 2, none⟩ = some (.int .i64 c2) := by rw [WA]; exact s3
  have hsz : wa.heap.size = w.heap.size := by rw [WA]; rfl
  have hma : Mat wa p q F r c z := by rw [WA]; exact HM.out.drewN nq
  have h2a : Mat wa p2 q2 F2 c c2 z2 := by rw [WA]; exact H2.out.drewN nq
  have hfa : Fld F wa := by rw [WA]; exact HF.out.drewN nq
  have hua : Up (One F) w wa := by rw [WA]; exact (Up.refl _ _).drewN nq
  have H := hid (blank_good F r c2 wa.drew hfa.lt hma.r1 hma.r32 h2a.c1 h2a.c32)
  have HA := hid (And.intro hma (And.intro h2a (And.intro hfa hua)))
  have SZ := hid hsz
  clear WA s1 s2 s3 s4 s5 hma h2a hfa hua hsz
  go_wp2_with fail
  go_region_held3 (fun w' => w'.cell? ⟨p, 0, none⟩ = some (.pointer (some ⟨F, 0, none⟩)) ∧ w'.cell? ⟨p, 1, none⟩ = some (.int .i64 r) ∧ w'.cell? ⟨p2, 2, none⟩ = some (.int .i64 c2)) (first | exact ⟨by assumption, by assumption, by assumption⟩ | go_keep)
    ((go_at_call 28; (with_reducible refine H.out.mono ?_); rintro e w1 ⟨rfl, k1⟩; have b1 := (k1.up.cell (p := ⟨p, 0, none⟩) HA.out.1.pl id).trans a1; have b2 := (k1.up.cell (p := ⟨p, 1, none⟩) HA.out.1.pl id).trans a2; have b3 := (k1.up.cell (p := ⟨p2, 2, none⟩) HA.out.2.1.pl id).trans a3; have K1 := hid k1; clear k1))
  go_wp2_with fail
  have hMk : Mk w p q F r c z p2 q2 F2 c2 z2 (wa.heap.size + 1) wa.heap.size (zer (r * c2)) w1 := by
    have k1 := K1.out
    obtain ⟨h1, h2, h3, h4⟩ := HA.out
    have e1 := h1.pl
    have e2 := h1.ql
    have e3 := h2.pl
    have e4 := h2.ql
    exact ⟨h1.drew.up k1.up id id, h2.drew.up k1.up id id, k1.mat, h4.drew.trans k1.up.nul, h3.drew.up (S := Nul) k1.up id, by rw [SZ.out]; exact Nat.le_refl _, ⟨by omega, by omega, by omega, by omega⟩, FF.out⟩
  obtain ⟨p3, P3⟩ : ∃ x, Hid (x = wa.heap.size + 1) := ⟨_, rfl⟩
  obtain ⟨q3, Q3⟩ : ∃ x, Hid (x = wa.heap.size) := ⟨_, rfl⟩
  rw [← P3.out, ← Q3.out] at hMk
  rw [← P3.out]
  have HMk := hid hMk
  clear hMk b1 b2 b3 a1 a2 a3 H K1
  go_loopw [47] (fun j wr => ∃ k : Nat, k ≤ c2 ∧ j = .int .i64 k ∧ ∃ y, Mk w p q F r c z p2 q2 F2 c2 z2 p3 q3 y wr ∧ ToldC (r * c2) c2 k 0 (fun t => sumAt c z (colOf c c2 (t % c2) z2) (t / c2)) y) (fun j _ => c2 - (intOf j).toNat)
  case atStart => exact ⟨0, by omega, rfl, _, HMk.out, fun t _ h => by rcases h with h | ⟨_, h⟩ <;> exact absurd h (Nat.not_lt_zero _)⟩
  case round =>
    clear HMk
    obtain ⟨j, hj, rfl, y, hy, hyt⟩ := hrel
    by_cases hlt : j < c2
    · have HC := hid (column_any p2 q2 F2 c c2 j z2 wr hy.mat2 hlt)
      have HY := hid hy
      have HYT := hid hyt
      clear hy hyt
      go_wp2_with fail
      refine HC.out.mono ?_
      rintro e wc ⟨rfl, kb, ku⟩
      have hc : Mkc w p q F r c z p2 q2 F2 c2 z2 p3 q3 y wr.heap.size (colOf c c2 j z2) wc :=
        ⟨HY.out.nul ku, kb, by have := HY.out.fld.lt; omega, by have := HY.out.mat3.ql; omega⟩
      have HMc := hid hc
      have m2 := hc.m.mat.rows
      obtain ⟨g, G⟩ : ∃ x, Hid (x = wr.heap.size) := ⟨_, rfl⟩
      rw [← G.out] at HMc ⊢
      clear kb ku hc HC
      go_wp2_with fail
      go_loopw [57] (fun i wr => ∃ k : Nat, k ≤ r ∧ i = .int .i64 k ∧ ∃ y, Mkc w p q F r c z p2 q2 F2 c2 z2 p3 q3 y g (colOf c c2 j z2) wr ∧ ToldC (r * c2) c2 j k (fun t => sumAt c z (colOf c c2 (t % c2) z2) (t / c2)) y) (fun i _ => r - (intOf i).toNat)
      case atStart => exact ⟨0, by omega, rfl, _, HMc.out, HYT.out⟩
      case round =>
        clear HMc HYT HY y
        obtain ⟨k, hk, rfl, y, hy, hyt⟩ := hrel
        by_cases hlt2 : k < r
        · have s0 := hy.m.mat.f
          have HM1 : Hid (Mkc w p q F r c z p2 q2 F2 c2 z2 p3 q3 y g (colOf c c2 j z2) wr.drew) := hy.drewN 1
          have HY := hid hy
          have HYT := hid hyt
          have i1 : (0 : Int) ≤ (j : Int) := by omega
          have i2 : (j : Int) < (c2 : Int) := by omega
          have hpg : p ≠ q3 := hy.m.far.1
          have hz3 := hy.m.mat3.at hlt2 hlt
          have HZ3 := hid hz3
          obtain ⟨v, V⟩ : ∃ v, Hid (sumAt c z (colOf c c2 j z2) k = v) := ⟨_, rfl⟩
          have v8 : v < 256 := by rw [← V.out]; exact sumAt_lt _ _ _ _
          have hzl : k * c + c ≤ z.length := by
            have := Nat.mul_le_mul_right c (show k + 1 ≤ r from hlt2)
            rw [hy.m.mat.len]
            rw [Nat.add_mul] at this
            omega
          have HZL := hid (rowz_length hzl)
          have HZ2 := hid hzl
          have HR2 := fun (wx : World) (h : Blk wx g (colOf c c2 j z2)) => hid (h.row 0 c (by unfold colOf; rw [tab_length]; omega))
          have eR : ((colOf c c2 j z2).drop 0).take c = colOf c c2 j z2 := by rw [List.drop_zero, List.take_of_length_le (by unfold colOf; rw [tab_length]; exact Nat.le_refl _)]
          rw [eR] at HR2
          clear hy hyt hzl hz3 eR
          go_wp2_with fail
          go_region_held3 (fun w' => w'.cell? ⟨p, 0, none⟩ = some (.pointer (some ⟨F, 0, none⟩))) (first | assumption | exact (far_cell _ _ hpg).trans (by assumption) | go_keep)
            ((first
              | (go_at_call 31; (with_reducible refine (row_any p q F r c k z _ D1.out.m.mat hlt2).mono ?_); rintro e wg ⟨rfl, m3, E3⟩; have D3 : Hid (Mkc w p q F r c z p2 q2 F2 c2 z2 p3 q3 y g (colOf c c2 j z2) wg) := (by show Mkc w p q F r c z p2 q2 F2 c2 z2 p3 q3 y g (colOf c c2 j z2) wg; rw [E3]; exact D1.out.drewN m3); have u3 := D3.out.m.mat.f; clear E3)
              | (go_at_call 31; (with_reducible refine (row_any p3 q3 F r c2 k y _ HM1.out.m.mat3 hlt2).mono ?_); rintro e wf ⟨rfl, m1, E1⟩; have D1 : Hid (Mkc w p q F r c z p2 q2 F2 c2 z2 p3 q3 y g (colOf c c2 j z2) wf) := (by show Mkc w p q F r c z p2 q2 F2 c2 z2 p3 q3 y g (colOf c c2 j z2) wf; rw [E1]; exact HM1.out.drewN m1); have u1 := D1.out.m.mat.f; clear E1)
              | (go_at_call 33; (with_reducible refine (dot_eq F q (k * c) _ g 0 _ c _ _ _ D3.out.m.fld (D3.out.m.mat.blk.row (k * c) c HZ2.out) (HR2 _ D3.out.col).out D3.out.m.mat.qF D3.out.gF HZL.out (by unfold colOf; exact tab_length _ _) (by omega)).mono ?_); rintro e wh ⟨he, k2⟩; rw [dotk_sumAt, V.out] at he; subst he; have D4 := hid (D3.out.kept k2); clear k2; have u4 := D4.out.m.mat.f; have t2 := D4.out.m.mat3.blk.cell _ HZ3.out; have t3 := D4.out.m.mat3.blk.froz (k * c2 + j))))
          go_wp2
          go_roundw
          case rel => exact ⟨k + 1, by omega, by go_num, _, D4.out.set _ v v8, HYT.out.next hlt2 hlt D4.out.m.mat3.len (by
            show sumAt c z (colOf c c2 ((k * c2 + j) % c2) z2) ((k * c2 + j) / c2) = v
            rw [Nat.mul_comm k c2, Nat.mul_add_mod, Nat.mod_eq_of_lt hlt, Nat.mul_add_div (by omega), Nat.div_eq_of_lt hlt, Nat.add_zero]
            exact V.out)⟩
          case measure => simp [intOf]; omega
        · obtain rfl : r = k := by omega
          have HY := hid hy.m
          have HYT := hid hyt
          clear hy hyt
          go_wp2
          go_roundw
          case rel => exact ⟨j + 1, by omega, by go_num, _, HY.out, HYT.out.col (by omega)⟩
          case measure => simp [intOf]; omega
    · obtain rfl : c2 = j := by omega
      have HY := hid hy
      have HYT := hid hyt
      clear hy hyt
      go_wp2
      go_ret2
      have e1 : p3 = w.heap.size + 1 := by have := P3.out; have := SZ.out; omega
      have e2 : q3 = w.heap.size := by have := Q3.out; have := SZ.out; omega
      subst e1 e2
      refine ⟨rfl, ?_, HY.out.up, HY.out.fld⟩
      have := eq_tab HY.out.mat3.len fun t ht => HYT.out t ht (.inl (Nat.mod_lt _ HY.out.mat3.c1))
      rw [prodZ, ← this]
      exact HY.out.mat3
end Go.Proofs.Ytoibfpcobhopeaa
