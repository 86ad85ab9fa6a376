/- 'Times', 'Mul' of a Matrix. -/
import Derived.Test.YtebglmfdchfplaaMatMake
import Derived.Test.YtebglmfdchfplaaMatMath
namespace Go.Proofs.Ytebglmfdchfplaa
open Go.RowKit
set_option linter.unusedVariables false

theorem dotk_xs (z1 z2 : List Nat) (k : Nat) : dotk z1 z2 k = GfM.xs k fun s => GfM.mul (z1.getD s 0) (z2.getD s 0) := by
  induction k with
  | zero => rfl
  | succ k ih => rw [dotk, GfM.xs, ih]
/-- Dot over two rows of one length. -/
theorem dot_eq (B b1 o1 c1 b2 o2 c2 n : Nat) (z1 z2 : List Nat) (w : World) (hf : Fld B w) (r1 : Row w b1 o1 z1) (r2 : Row w b2 o2 z2) (n1 : b1 ≠ B) (n2 : b2 ≠ B) (l1 : z1.length = n) (l2 : z2.length = n) (hn : n ≤ 2000) :
    Calls Try.prog 72 #[.pointer (some ⟨B, 0, none⟩), .slice (some ⟨b1, o1, none⟩) n c1, .slice (some ⟨b2, o2, none⟩) n c2] w
      fun e w' => e = .returned (.int .u8 (dotk z1 z2 n)) ∧ Kept B w w' := by
  have := dot_rows B b1 o1 c1 b2 o2 c2 z1 z2 w hf r1 r2 n1 n2 (by omega) (by omega)
  rw [l1, l2, Nat.min_self] at this
  exact this
theorem rowz_length {z : List Nat} {o n : Nat} (h : o + n ≤ z.length) : ((z.drop o).take n).length = n := by simp; omega
theorem rowz_at {z : List Nat} {o n s : Nat} (h : s < n) : ((z.drop o).take n).getD s 0 = z.getD (o + s) 0 := by
  simp [List.getD_eq_getElem?_getD, h, List.getElem?_drop]

/-- A row of numbers told by Dots: where a walk that fills block g stands. -/
structure Wk (w : World) (p q F r c : Nat) (z : List Nat) (g : Nat) (y : List Nat) (b2 o2 : Nat) (z2 : List Nat) (wr : World) : Prop where
  mat : Mat wr p q F r c z
  blk : Blk wr g y
  row2 : Row wr b2 o2 z2
  lt2 : b2 < wr.heap.size
  up : Up (One F) w wr
  fld : Fld F wr
  gF : g ≠ F
  gp : g ≠ p
  gq : g ≠ q
  g2 : b2 ≠ g
  F2 : b2 ≠ F
  gw : w.heap.size ≤ g
theorem Wk.drewN {w wr : World} {p q F r c g b2 o2 : Nat} {z y z2 : List Nat} (h : Wk w p q F r c z g y b2 o2 z2 wr) (n : Nat) : Wk w p q F r c z g y b2 o2 z2 (wr.drewN n) :=
  { h with mat := h.mat.drewN n, blk := h.blk.drewN n, row2 := ⟨h.row2.cells, h.row2.small⟩, lt2 := h.lt2, up := h.up.drewN n, fld := h.fld.drewN n }
theorem Wk.drew {w wr : World} {p q F r c g b2 o2 : Nat} {z y z2 : List Nat} (h : Wk w p q F r c z g y b2 o2 z2 wr) : Wk w p q F r c z g y b2 o2 z2 wr.drew := h.drewN 1
theorem Wk.kept {w wr w' : World} {p q F r c g b2 o2 : Nat} {z y z2 : List Nat} (h : Wk w p q F r c z g y b2 o2 z2 wr) (k : Kept F wr w') : Wk w p q F r c z g y b2 o2 z2 w' :=
  { h with mat := h.mat.kept k, blk := h.blk.up (Up.of_out k.1) h.gF, row2 := h.row2.of_out k.1 h.F2, lt2 := by rw [k.1.size]; exact h.lt2, up := h.up.trans (Up.of_out k.1), fld := k.2 }
theorem Wk.set {w wr : World} {p q F r c g b2 o2 : Nat} {z y z2 : List Nat} (h : Wk w p q F r c z g y b2 o2 z2 wr) (i v : Nat) (hv : v < 256) : Wk w p q F r c z g (y.set i v) b2 o2 z2 (wr.setCell ⟨g, i, none⟩ (.int .u8 v)) :=
  { h with mat := h.mat.other (a := ⟨g, i, none⟩) (fun e => h.gp e.symm) (fun e => h.gq e.symm) _, blk := h.blk.set i v hv
           row2 := ⟨fun j hj => by rw [World.cell?_setCell_other _ _ _ _ (by intro e; have := congrArg Addr.block e; simp at this; have := h.g2; omega)]; exact h.row2.cells j hj, h.row2.small⟩
           lt2 := by simpa using h.lt2, up := h.up.setCell (p := ⟨g, i, none⟩) (.inl h.gw) _, fld := h.fld.up (S := One g) ((Up.refl _ _).setCell (p := ⟨g, i, none⟩) (.inr (show One g g from rfl)) _) fun e => h.gF e.symm }

theorem far_cell {p g j k : Nat} (w : World) (v : Value) (h : p ≠ g) : (w.setCell ⟨g, k, none⟩ v).cell? ⟨p, j, none⟩ = w.cell? ⟨p, j, none⟩ :=
  World.cell?_setCell_other _ _ _ _ (by intro e; have := congrArg Addr.block e; simp at this; omega)

/-- The sums of products of row i with z2. -/
def sumAt (c : Nat) (z z2 : List Nat) (i : Nat) : Nat := GfM.xs c fun s => GfM.mul (z.getD (i * c + s) 0) (z2.getD s 0)
theorem dotk_sumAt {c i : Nat} {z z2 : List Nat} : dotk ((z.drop (i * c)).take c) z2 c = sumAt c z z2 i := by
  rw [dotk_xs]
  exact GfM.xs_congr fun s hs => by rw [rowz_at hs]
theorem sumAt_lt (c : Nat) (z z2 : List Nat) (i : Nat) : sumAt c z z2 i < 256 := GfM.xs_lt fun _ _ => GfM.mul_lt _ _

theorem times_bad (p q F r c n cap : Nat) (a : Option Addr) (z : List Nat) (w : World) (hm : Mat w p q F r c z) (hn : n ≠ c) :
    Calls Try.prog 58 #[.pointer (some ⟨p, 0, none⟩), .slice a n cap] w fun e w' => e = .returned (.tuple #[.slice none 0 0, .int .i64 1]) ∧ w' = w := by
  have h2 := hm.cols
  have hd : ((n : Int) == (c : Int)) = false := by simp; omega
  have hd2 : ((n : Int) != (c : Int)) = true := by simp; omega
  clear hm hn
  go_enter Try.func58, Try.ntmps58
  go_wp2
  go_ret2
  exact ⟨rfl, rfl⟩

set_option maxRecDepth 100000 in
set_option maxHeartbeats 800000 in
theorem times_good (p q F r c b2 o2 cap : Nat) (z z2 : List Nat) (w : World) (hm : Mat w p q F r c z) (hf : Fld F w) (h2 : Row w b2 o2 z2) (hl : z2.length = c) (hb : b2 < w.heap.size) (hbF : b2 ≠ F) :
    Calls Try.prog 58 #[.pointer (some ⟨p, 0, none⟩), .slice (some ⟨b2, o2, none⟩) c cap] w
      fun e w' => e = .returned (.tuple #[.slice (some ⟨w.heap.size, 0, none⟩) r r, .int .i64 0]) ∧ Blk w' w.heap.size (tab r fun i => sumAt c z z2 i) ∧ Up (One F) w w' ∧ Fld F w' := by
  have m1 := hm.rows
  have m2 := hm.cols
  have hr := hm.r32
  have hc := hm.c32
  have hmk := make_bytes w r (by omega)
  have HW : Hid (Wk w p q F r c z w.heap.size (zer r) b2 o2 z2 (w.alloc (.cells (bys (zer r)) 5))) := by
    have a1 := hm.pl
    have a2 := hm.ql
    have a3 := hf.lt
    exact ⟨hm.alloc _, Blk.new w _ (zer_small r), h2.up ((Up.refl Nul w).alloc _) hb id, by simp; omega, (Up.refl _ w).alloc _, hf.alloc _, by omega, by omega, by omega, by omega, hbF, Nat.le_refl _⟩
  have HL := hid hl
  have HMl := hid hm
  generalize w.alloc (.cells (bys (zer r)) 5) = w0 at *
  clear hm hf h2 hl hb hbF
  go_enter Try.func58, Try.ntmps58
  go_wp2
  generalize HG : w.heap.size = g at *
  go_loopw [22] (fun i wr => ∃ k : Nat, k ≤ r ∧ i = .int .i64 k ∧ ∃ y, Wk w p q F r c z g y b2 o2 z2 wr ∧ y.length = r ∧ ∀ i, i < k → y.getD i 0 = sumAt c z z2 i) (fun i _ => r - (intOf i).toNat)
  case atStart => exact ⟨0, by omega, rfl, _, HW.out, zer_length _, fun _ h => absurd h (Nat.not_lt_zero _)⟩
  case round =>
    obtain ⟨k, hk, rfl, y, hy, hyl, hyt⟩ := hrel
    by_cases hlt : k < r
    · have s0 := hy.mat.f
      have HM1 := hid hy.mat.drew
      have HY := hid hy
      have HYL := hid hyl
      have HYT := hid hyt
      have i1 : (0 : Int) ≤ (k : Int) := by omega
      have i2 : (k : Int) < (r : Int) := by omega
      have hpg : p ≠ g := fun e => hy.gp e.symm
      obtain ⟨v, V⟩ : ∃ v, Hid (sumAt c z z2 k = v) := ⟨_, rfl⟩
      have v8 : v < 256 := by rw [← V.out]; exact sumAt_lt _ _ _ _
      have hzl : k * c + c ≤ z.length := by
        have := Nat.mul_le_mul_right c (show k + 1 ≤ r from hlt)
        rw [hy.mat.len]
        rw [Nat.add_mul] at this
        omega
      have HZL := hid (rowz_length hzl)
      have HZ2 := hid hzl
      clear hy hyl hyt hzl
      go_wp2_with fail
      go_region_held3 (fun w' => w'.cell? ⟨p, 0, none⟩ = some (.pointer (some ⟨F, 0, none⟩))) (first | assumption | exact (far_cell _ _ hpg).trans (by assumption) | go_keep)
        ((first
          | (go_at_call 52; (with_reducible refine (row_any p q F r c k z _ HM1.out hlt).mono ?_); rintro e w1 ⟨rfl, m1, E1⟩; have D1 : Hid (Wk w p q F r c z g y b2 o2 z2 w1) := (by show Wk w p q F r c z g y b2 o2 z2 w1; rw [E1]; exact HY.out.drew.drewN m1); have s1 := D1.out.mat.f; clear E1)
          | (go_at_call 72; (with_reducible refine (dot_eq F q (k * c) _ b2 o2 _ c _ z2 _ D1.out.fld (D1.out.mat.blk.row (k * c) c HZ2.out) D1.out.row2 D1.out.mat.qF D1.out.F2 HZL.out HL.out (by omega)).mono ?_); rintro e w2 ⟨he, k2⟩; rw [dotk_sumAt, V.out] at he; subst he; have D2 := hid (D1.out.kept k2); clear k2; have s2 := D2.out.mat.f; have t2 := D2.out.blk.cell k (by rw [HYL.out]; exact hlt); have t3 := D2.out.blk.froz k)))
      go_wp2
      go_roundw
      case rel => exact ⟨k + 1, by omega, by go_num, _, D2.out.set k v v8, by rw [List.length_set]; exact HYL.out, fun i hi => by
        rw [getD_set _ _ _ _ (by rw [HYL.out]; exact hlt)]
        split
        · next e => rw [e, V.out]
        · exact HYT.out i (by omega)⟩
      case measure => simp [intOf]; omega
    · obtain rfl : r = k := by omega
      have HY := hid (And.intro hy (And.intro hyl hyt))
      clear hy hyl hyt
      go_wp2
      go_ret2
      subst HG
      refine ⟨rfl, ?_, HY.out.1.up, HY.out.1.fld⟩
      rw [← eq_tab HY.out.2.1 HY.out.2.2]
      exact HY.out.1.blk

/-- The cells of a product, row by row. -/
def prodZ (r k c : Nat) (z z2 : List Nat) : List Nat := tab (r * c) fun t => sumAt k z (colOf k c (t % c) z2) (t / c)
end Go.Proofs.Ytebglmfdchfplaa
