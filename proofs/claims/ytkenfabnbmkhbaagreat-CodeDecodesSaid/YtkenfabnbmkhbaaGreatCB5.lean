/- Part 5 of what the walks rest on: MatUnit, MatLaw, MatCauchy, RefInvParts, CodeMath, CodeWorld. -/
import Derived.Test.YtkenfabnbmkhbaaGreatCB4
namespace Go.Proofs.YtkenfabnbmkhbaaGreat
open Go.RowKit
set_option linter.unusedVariables false

set_option maxRecDepth 100000 in
set_option maxHeartbeats 800000 in
theorem refUnit_any (n : Nat) (w : World) (n1 : 1 ≤ n) (n2 : n ≤ 32) :
    Calls Tryz.prog 58 #[.int .i64 n] w fun e w' => ∃ g, e = .returned (.agg #[.int .i64 n, .int .i64 n, .slice (some ⟨g, 0, none⟩) (n * n) (n * n)]) ∧ Blk w' g (unitZ n) ∧ w.heap.size ≤ g ∧ Up Nul w w' := by
  have hm := prod_most n2 n2
  have hk : (n : Int) * (n : Int) = ((n * n : Nat) : Int) := by simp
  have hmk := make_bytes (w.alloc (.cells #[.int .i64 0, .int .i64 0, .slice none 0 0] 100)) (n * n) (by omega)
  obtain ⟨nn, NN⟩ : ∃ x, Hid (n * n = x) := ⟨_, rfl⟩
  rw [NN.out] at hmk hk hm ⊢
  go_enter Tryz.func58, Tryz.ntmps58
  have h0 : RU w w.heap.size (w.heap.size + 2) (w.heap.size + 1) n nn (zer nn) (((w.alloc (.cells #[.int .i64 0, .int .i64 0, .slice none 0 0] 100)).alloc (.cells (bys (zer nn)) 5)).alloc (.cells #[.int .i64 n, .int .i64 n, .slice (some ⟨w.heap.size + 1, 0, none⟩) nn nn] 100)) := by
    have e1 : (w.alloc (.cells #[.int .i64 0, .int .i64 0, .slice none 0 0] 100)).heap.size = w.heap.size + 1 := by simp
    have e2 : ((w.alloc (.cells #[.int .i64 0, .int .i64 0, .slice none 0 0] 100)).alloc (.cells (bys (zer nn)) 5)).heap.size = w.heap.size + 2 := by simp
    have h1 := Blk.new (w.alloc (.cells #[.int .i64 0, .int .i64 0, .slice none 0 0] 100)) (zer nn) (zer_small nn)
    rw [e1] at h1
    have h2 := St.new ((w.alloc (.cells #[.int .i64 0, .int .i64 0, .slice none 0 0] 100)).alloc (.cells (bys (zer nn)) 5)) n n (.slice (some ⟨w.heap.size + 1, 0, none⟩) nn nn) 100
    rw [e2] at h2
    exact ⟨h1.alloc _, h2, (Below.heap_alloc _ _ _ (by rw [e2]; omega)).trans ((Below.heap_alloc _ _ _ (by rw [e1]; omega)).trans (heap_alloc_new _ _)), (((Up.refl _ _).alloc _).alloc _).alloc _, Nat.le_refl _, by omega, by omega⟩
  have H0 := hid h0
  clear h0
  go_wp2_with fail
  generalize (((w.alloc (.cells #[.int .i64 0, .int .i64 0, .slice none 0 0] 100)).alloc (.cells (bys (zer nn)) 5)).alloc (.cells #[.int .i64 n, .int .i64 n, .slice (some ⟨w.heap.size + 1, 0, none⟩) nn nn] 100)) = w0 at *
  obtain ⟨M, MM⟩ : ∃ x, x = w.heap.size + 2 := ⟨_, rfl⟩
  obtain ⟨g, GG⟩ : ∃ x, x = w.heap.size + 1 := ⟨_, rfl⟩
  obtain ⟨P, PP⟩ : ∃ x, x = w.heap.size := ⟨_, rfl⟩
  rw [← MM, ← GG, ← PP] at H0
  rw [← MM, ← GG, ← PP]
  clear MM GG PP hmk
  go_loopw [4] (fun i wr => ∃ k : Nat, k ≤ n ∧ i = .int .i64 k ∧ ∃ y, RU w P M g n nn y wr ∧ y.length = n * n ∧ ∀ t, t < n * n → y.getD t 0 = unitK n k t) (fun i _ => n - (intOf i).toNat)
  case atStart => exact ⟨0, by omega, rfl, _, H0.out, by rw [zer_length, NN.out], fun t _ => by rw [← NN.out]; exact unitK_zero t⟩
  case round =>
    clear H0
    obtain ⟨k, hk, rfl, y, hy, hl, ht⟩ := hrel
    by_cases hlt : k < n
    · have hkn : k * n + k < nn := by
        have := Nat.mul_le_mul_right n (show k + 1 ≤ n from hlt)
        rw [Nat.add_mul] at this
        have := NN.out
        omega
      have ek : (k : Int) * (n : Int) = ((k * n : Nat) : Int) := by simp
      have c2 := hy.st.c2
      have hc := hy.blk.cell (k * n + k) (by rw [hl, NN.out]; exact hkn)
      have hf := hy.blk.froz (k * n + k)
      have HY := hid (And.intro hy (And.intro hl ht))
      generalize y.getD (k * n + k) 0 = u at hc
      obtain ⟨kn, KN⟩ : ∃ x, Hid (k * n = x) := ⟨_, rfl⟩
      rw [KN.out] at hkn ek hc hf
      clear hy hl ht
      go_wp2
      go_roundw
      case rel => exact ⟨k + 1, by omega, by go_num, _, by have h1 := HY.out.1.set (k * n + k) 1 (by omega); rw [KN.out] at h1; exact h1, by rw [List.length_set]; exact HY.out.2.1, by have h1 := unitK_next hlt HY.out.2.1 HY.out.2.2; rw [KN.out] at h1; exact h1⟩
      case measure => simp [intOf]; omega
    · obtain rfl : n = k := by omega
      have HY := hid (And.intro hy (And.intro hl ht))
      have a0 : wr.cell? ⟨P, 0, none⟩ = some (.int .i64 0) := by simp only [World.cell?, hy.st0]; rfl
      have a1 : wr.cell? ⟨P, 1, none⟩ = some (.int .i64 0) := by simp only [World.cell?, hy.st0]; rfl
      have a2 : wr.cell? ⟨P, 2, none⟩ = some (.slice none 0 0) := by simp only [World.cell?, hy.st0]; rfl
      have a3 : ∀ j, wr.frozen? ⟨P, j, none⟩ = false := fun j => by simp [World.frozen?, hy.st0]
      have b0 := hy.st.c0
      have b1 := hy.st.c1
      have b2 := hy.st.c2
      have hMP : P ≠ M := by have := hy.PM; have := hy.Pg; omega
      clear hy hl ht
      go_wp2
      refine bodyPost_ret (results_cell_row (P := Tryz.prog) (ty := 100) rfl _ _ P _ _ _ _ rfl (heap3 HY.out.1.st0 _ _ _) Tryz.underlying100 rfl info_m3) rfl ?_
      have hpw := HY.out.1.Pw
      have hpg := HY.out.1.Pg
      refine ⟨g, rfl, ?_, by omega, ((HY.out.1.up.setCell (p := ⟨P, 0, none⟩) (.inl hpw) _).setCell (p := ⟨P, 1, none⟩) (.inl hpw) _).setCell (p := ⟨P, 2, none⟩) (.inl hpw) _⟩
      rw [← unitK_done HY.out.2.1 (by omega) HY.out.2.2]
      exact ((HY.out.1.blk.other (p := ⟨P, 0, none⟩) (by show g ≠ P; omega) _).other (p := ⟨P, 1, none⟩) (by show g ≠ P; omega) _).other (p := ⟨P, 2, none⟩) (by show g ≠ P; omega) _

theorem Newed.up {w w' : World} (h : Newed w w') : Up Nul w w' := Up.of_below h.below _
def Fs (FS : List Nat) (k : Nat) : Prop := k ∈ FS
/-- One step: nothing that was there turns but the Fields, and they are Fields still. -/
structure Nxt (FS : List Nat) (w w' : World) : Prop where
  up : Up (Fs FS) w w'
  fld : ∀ F, F ∈ FS → Fld F w'
/-- Where a law stands: its Fields are its own. -/
structure LS (w0 : World) (FS : List Nat) (w : World) : Prop where
  up : Up Nul w0 w
  fld : ∀ F, F ∈ FS → Fld F w
  own : ∀ F, F ∈ FS → w0.heap.size ≤ F
/-- A Matrix of the law's. -/
structure LM (FS : List Nat) (w : World) (p q F r c : Nat) (z : List Nat) : Prop where
  mat : Mat w p q F r c z
  F : F ∈ FS
  p : p ∉ FS
  q : q ∉ FS
/-- A row. -/
structure LR (FS : List Nat) (w : World) (b o : Nat) (z : List Nat) : Prop where
  row : Row w b o z
  lt : b < w.heap.size
  b : b ∉ FS
theorem Nxt.trans {FS : List Nat} {u v w : World} (h : Nxt FS u v) (k : Nxt FS v w) : Nxt FS u w := ⟨h.up.trans k.up, k.fld⟩
theorem LS.lt {w0 w : World} {FS : List Nat} (h : LS w0 FS w) {k : Nat} (hk : w.heap.size ≤ k) : k ∉ FS := fun hm => by have := (h.fld k hm).lt; omega
theorem LS.nxt {w0 w w' : World} {FS : List Nat} (h : LS w0 FS w) (n : Nxt FS w w') : LS w0 FS w' :=
  ⟨⟨n.up.os.trans h.up.os, n.up.tape.trans h.up.tape, n.up.output.trans h.up.output, Nat.le_trans h.up.size n.up.size, fun k hk hs => (n.up.block k (Nat.lt_of_lt_of_le hk h.up.size) fun hm => by have := h.own k hm; omega).trans (h.up.block k hk hs)⟩, n.fld, h.own⟩
theorem LM.nxt {FS : List Nat} {w w' : World} {p q F r c : Nat} {z : List Nat} (h : LM FS w p q F r c z) (n : Nxt FS w w') : LM FS w' p q F r c z := ⟨h.mat.up n.up h.p h.q, h.F, h.p, h.q⟩
theorem LR.nxt {FS : List Nat} {w w' : World} {b o : Nat} {z : List Nat} (h : LR FS w b o z) (n : Nxt FS w w') : LR FS w' b o z := ⟨h.row.up n.up h.lt h.b, Nat.lt_of_lt_of_le h.lt n.up.size, h.b⟩
theorem LS.nul {w0 w w' : World} {FS : List Nat} (h : LS w0 FS w) (u : Up Nul w w') : Nxt FS w w' := ⟨u.nul, fun F hF => (h.fld F hF).up (S := Nul) u id⟩
theorem LS.one {w0 w w' : World} {FS : List Nat} {F : Nat} (h : LS w0 FS w) (hF : F ∈ FS) (u : Up (One F) w w') (f : Fld F w') : Nxt FS w w' :=
  ⟨u.mono fun k _ e => by unfold One at e; subst e; exact hF, fun G hG => by
    by_cases e : G = F
    · subst e; exact f
    · exact (h.fld G hG).up u e⟩
theorem LS.refl {w0 w : World} {FS : List Nat} (h : LS w0 FS w) : Nxt FS w w := h.nul (Up.refl _ _)
theorem LS.alloc {w0 w : World} {FS : List Nat} (h : LS w0 FS w) (o : Obj) : Nxt FS w (w.alloc o) := h.nul ((Up.refl _ _).alloc o)
theorem LS.drewN {w0 w : World} {FS : List Nat} (h : LS w0 FS w) (n : Nat) : Nxt FS w (w.drewN n) := h.nul ((Up.refl _ _).drewN n)
theorem LS.drew {w0 w : World} {FS : List Nat} (h : LS w0 FS w) : Nxt FS w w.drew := h.nul ((Up.refl _ _).drew)
theorem LS.below {w0 w : World} {FS : List Nat} (h : LS w0 FS w) : Below w0.heap.size w0 w := h.up.below (Nat.le_refl _) fun _ _ h => h
theorem LS.start (w : World) : LS w [] w := ⟨Up.refl _ _, fun _ h => (List.not_mem_nil h).elim, fun _ h => (List.not_mem_nil h).elim⟩
/-- A new Field. -/
theorem LS.field {w0 w w' : World} {FS : List Nat} (h : LS w0 FS w) (n : Newed w w') : LS w0 (w.heap.size :: FS) w' :=
  ⟨h.up.trans n.up, fun F hF => by
    rcases List.mem_cons.1 hF with e | hF
    · subst e; exact n.fld
    · exact (h.fld F hF).up (S := Nul) n.up id, fun F hF => by
    rcases List.mem_cons.1 hF with e | hF
    · subst e; exact h.up.size
    · exact h.own F hF⟩
theorem LM.field {FS : List Nat} {w w' : World} {p q F r c : Nat} {z : List Nat} (h : LM FS w p q F r c z) (n : Newed w w') : LM (w.heap.size :: FS) w' p q F r c z :=
  ⟨h.mat.up n.up id id, List.mem_cons_of_mem _ h.F, fun hm => by
    rcases List.mem_cons.1 hm with e | hm
    · have := h.mat.pl; omega
    · exact h.p hm, fun hm => by
    rcases List.mem_cons.1 hm with e | hm
    · have := h.mat.ql; omega
    · exact h.q hm⟩
theorem LR.field {FS : List Nat} {w w' : World} {b o : Nat} {z : List Nat} (h : LR FS w b o z) (n : Newed w w') : LR (w.heap.size :: FS) w' b o z :=
  ⟨h.row.up n.up h.lt id, Nat.lt_of_lt_of_le h.lt n.up.size, fun hm => by
    rcases List.mem_cons.1 hm with e | hm
    · have := h.lt; omega
    · exact h.b hm⟩
theorem newL {w0 w : World} {FS : List Nat} {F r c n b o cap : Nat} {z : List Nat} (h : LS w0 FS w) (hF : F ∈ FS) (r1 : 1 ≤ r) (r2 : r ≤ 32) (c1 : 1 ≤ c) (c2 : c ≤ 32) (hz : LR FS w b o z) (hl : z.length = n) (hn : n = r * c) :
    Calls Tryz.prog 27 #[.pointer (some ⟨F, 0, none⟩), .int .i64 r, .int .i64 c, .slice (some ⟨b, o, none⟩) n cap] w
      fun e w' => ∃ p q, e = .returned (.tuple #[.pointer (some ⟨p, 0, none⟩), .int .i64 0]) ∧ LM FS w' p q F r c z ∧ Nxt FS w w' :=
  (new_good F r c n b o cap z w (h.fld F hF).lt r1 r2 c1 c2 hz.row hz.lt hl hn).mono fun e w' ⟨h1, h2⟩ => ⟨_, _, h1, ⟨h2.mat, hF, h.lt (by omega), h.lt (by omega)⟩, h.nul h2.up⟩
theorem invertL {w0 w : World} {FS : List Nat} {p q F n : Nat} {z : List Nat} (h : LS w0 FS w) (hm : LM FS w p q F n n z) :
    Calls Tryz.prog 54 #[.pointer (some ⟨p, 0, none⟩)] w
      fun e w' => Nxt FS w w' ∧ ((GfM.run n (GfM.beside n (cz n z)) n = none ∧ e = .returned (.tuple #[.pointer none, .int .i64 2])) ∨
        ∃ M p3 q3, GfM.run n (GfM.beside n (cz n z)) n = some M ∧ e = .returned (.tuple #[.pointer (some ⟨p3, 0, none⟩), .int .i64 0]) ∧ LM FS w' p3 q3 F n n (tab (n * n) fun t => GfM.half n M (t / n) (t % n))) := by
  refine (invert_any p q F n z w hm.mat (h.fld F hm.F)).mono ?_
  rintro e w' ⟨h1, h2, h3 | ⟨M, h3, h4, h5⟩⟩
  · exact ⟨h.one hm.F h1 h2, .inl h3⟩
  · exact ⟨h.one hm.F h1 h2, .inr ⟨M, _, _, h3, h4, h5, hm.F, h.lt (by omega), h.lt (by omega)⟩⟩
theorem unitL {w0 w : World} {FS : List Nat} {F n : Nat} (h : LS w0 FS w) (hF : F ∈ FS) (n1 : 1 ≤ n) (n2 : n ≤ 32) :
    Calls Tryz.prog 25 #[.pointer (some ⟨F, 0, none⟩), .int .i64 n] w fun e w' => ∃ p q, e = .returned (.tuple #[.pointer (some ⟨p, 0, none⟩), .int .i64 0]) ∧ LM FS w' p q F n n (unitZ n) ∧ Nxt FS w w' :=
  (unit_good F n w (h.fld F hF).lt n1 n2).mono fun e w' ⟨h1, h2, h3⟩ => ⟨_, _, h1, ⟨h2, hF, h.lt (by omega), h.lt (by omega)⟩, h.nul h3⟩
theorem gfNewL {w0 w : World} {FS : List Nat} (h : LS w0 FS w) : Calls Tryz.prog 7 #[] w fun e w' => e = .returned (.pointer (some ⟨w.heap.size, 0, none⟩)) ∧ Newed w w' := new_any w
/-- A new Field F. -/
structure NewF (w w' : World) (F : Nat) : Prop where
  eq : F = w.heap.size
  n : Newed w w'
theorem LS.newF {w0 w w' : World} {FS : List Nat} {F : Nat} (h : LS w0 FS w) (n : NewF w w' F) : LS w0 (F :: FS) w' := by rw [n.eq]; exact h.field n.n
theorem LM.newF {FS : List Nat} {w w' : World} {p q F r c G : Nat} {z : List Nat} (h : LM FS w p q F r c z) (n : NewF w w' G) : LM (G :: FS) w' p q F r c z := by rw [n.eq]; exact h.field n.n
theorem LR.newF {FS : List Nat} {w w' : World} {b o G : Nat} {z : List Nat} (h : LR FS w b o z) (n : NewF w w' G) : LR (G :: FS) w' b o z := by rw [n.eq]; exact h.field n.n
theorem gfNewF (w : World) : Calls Tryz.prog 7 #[] w fun e w' => ∃ F, e = .returned (.pointer (some ⟨F, 0, none⟩)) ∧ NewF w w' F :=
  (new_any w).mono fun e w' ⟨h1, h2⟩ => ⟨_, h1, rfl, h2⟩
theorem cz_small {n : Nat} {z : List Nat} (h : ∀ x ∈ z, x < 256) : GfM.Small (cz n z) := fun i j => small_getD h _
theorem tab_small {n : Nat} {f : Nat → Nat} (h : ∀ i, f i < 256) : ∀ x ∈ tab n f, x < 256 := by
  intro x hx
  obtain ⟨i, _, rfl⟩ := List.mem_map.1 hx
  exact h i
theorem cz_tab {n : Nat} {f : Nat → Nat → Nat} {i j : Nat} (hi : i < n) (hj : j < n) : cz n (tab (n * n) fun t => f (t / n) (t % n)) i j = f i j := by
  unfold cz
  have hlt : i * n + j < n * n := by
    have := Nat.mul_le_mul_right n (show i + 1 ≤ n from hi)
    rw [Nat.add_mul] at this
    omega
  rw [tab_at _ _ _ hlt, Nat.mul_comm i n, Nat.mul_add_mod, Nat.mod_eq_of_lt hj, Nat.mul_add_div (by omega), Nat.div_eq_of_lt hj, Nat.add_zero]
theorem tab_two {n : Nat} {f g : Nat → Nat → Nat} (h : ∀ i j, i < n → j < n → f i j = g i j) : (tab (n * n) fun t => f (t / n) (t % n)) = tab (n * n) fun t => g (t / n) (t % n) :=
  tab_congr fun t ht => by
    have hn : 0 < n := by
      rcases Nat.eq_zero_or_pos n with e | e
      · subst e; omega
      · exact e
    exact h _ _ ((Nat.div_lt_iff_lt_mul hn).2 ht) (Nat.mod_lt _ hn)
theorem prod_cz {n : Nat} (z z2 : List Nat) : prodZ n n n z z2 = tab (n * n) fun t => GfM.mm n (cz n z) (cz n z2) (t / n) (t % n) :=
  tab_congr fun t ht => GfM.xs_congr fun s hs => by
    unfold colOf cz
    rw [tab_at _ _ _ hs]
theorem unit_cz (n : Nat) : unitZ n = tab (n * n) fun t => GfM.idm (t / n) (t % n) := rfl
theorem z_cz {n : Nat} {z : List Nat} (hl : z.length = n * n) : z = tab (n * n) fun t => cz n z (t / n) (t % n) :=
  eq_tab hl fun t ht => by
    unfold cz
    rw [Nat.mul_comm, Nat.div_add_mod]
/-- A product with the unit. -/
theorem prod_unit {n : Nat} {z : List Nat} (hl : z.length = n * n) (hs : ∀ x ∈ z, x < 256) : prodZ n n n z (unitZ n) = z := by
  rw [prod_cz, unit_cz]
  conv => rhs; rw [z_cz hl]
  exact tab_two fun i j hi hj => by
    rw [GfM.mm_congr (A' := cz n z) (B' := GfM.idm) (fun _ _ => rfl) fun s hs => cz_tab hs hj]
    exact GfM.mm_id (cz_small hs) hj
theorem unit_prod {n : Nat} {z : List Nat} (hl : z.length = n * n) (hs : ∀ x ∈ z, x < 256) : prodZ n n n (unitZ n) z = z := by
  rw [prod_cz, unit_cz]
  conv => rhs; rw [z_cz hl]
  exact tab_two fun i j hi hj => by
    rw [GfM.mm_congr (A' := GfM.idm) (B' := cz n z) (fun s hs => cz_tab hi hs) fun _ _ => rfl]
    exact GfM.id_mm (cz_small hs) hi
/-- The inverse's cells. -/
def invZ (n : Nat) (M : GfM.Mx) : List Nat := tab (n * n) fun t => GfM.half n M (t / n) (t % n)
theorem invZ_length (n : Nat) (M : GfM.Mx) : (invZ n M).length = n * n := tab_length _ _
theorem prod_inv {n : Nat} {z : List Nat} {M : GfM.Mx} (hs : ∀ x ∈ z, x < 256) (h : GfM.run n (GfM.beside n (cz n z)) n = some M) : prodZ n n n z (invZ n M) = unitZ n := by
  rw [prod_cz, unit_cz]
  exact tab_two fun i j hi hj => by
    exact (GfM.mm_congr (A' := cz n z) (B' := GfM.half n M) (fun _ _ => rfl) fun s hs => cz_tab hs hj).trans ((GfM.run_inverse (cz_small hs) h).2.1 i j hi hj)
theorem inv_prod {n : Nat} {z : List Nat} {M : GfM.Mx} (hs : ∀ x ∈ z, x < 256) (h : GfM.run n (GfM.beside n (cz n z)) n = some M) : prodZ n n n (invZ n M) z = unitZ n := by
  rw [prod_cz, unit_cz]
  exact tab_two fun i j hi hj => by
    exact (GfM.mm_congr (A' := GfM.half n M) (B' := cz n z) (fun s hs => cz_tab hi hs) fun _ _ => rfl).trans ((GfM.run_inverse (cz_small hs) h).2.2 i j hi hj)
/-- Inverted twice. -/
theorem inv_inv {n : Nat} {z : List Nat} {M : GfM.Mx} (hl : z.length = n * n) (hs : ∀ x ∈ z, x < 256) (h : GfM.run n (GfM.beside n (cz n z)) n = some M) :
    ∃ M2, GfM.run n (GfM.beside n (cz n (invZ n M))) n = some M2 ∧ invZ n M2 = z := by
  obtain ⟨a1, a2, a3⟩ := GfM.run_inverse (cz_small hs) h
  have b1 : GfM.Small (cz n (invZ n M)) := cz_small (tab_small fun t => a1 _ _)
  have e1 : ∀ i j, i < n → j < n → GfM.mm n (cz n z) (cz n (invZ n M)) i j = GfM.idm i j := fun i j hi hj => by
    exact (GfM.mm_congr (A' := cz n z) (B' := GfM.half n M) (fun _ _ => rfl) fun s hs => cz_tab hs hj).trans (a2 i j hi hj)
  cases hr : GfM.run n (GfM.beside n (cz n (invZ n M))) n with
  | none => exact absurd hr (GfM.run_ne_none b1 e1)
  | some M2 =>
    obtain ⟨c1, c2, c3⟩ := GfM.run_inverse b1 hr
    refine ⟨M2, rfl, ?_⟩
    conv => rhs; rw [z_cz hl]
    exact tab_two fun i j hi hj => (GfM.inverse_one (cz_small hs) c1 e1 c2 hi hj).symm
namespace GfM

instance : Std.Associative mul := ⟨mul_assoc⟩
instance : Std.Commutative mul := ⟨mul_comm⟩
theorem xor_mul {x y : Nat} (hx : x < 256) (hy : y < 256) (a : Nat) : mul (x ^^^ y) a = mul x a ^^^ mul y a := by
  rw [mul_comm, mul_xor a hx hy, mul_comm a x, mul_comm a y]
theorem xor_ne {x y : Nat} (h : x ≠ y) : x ^^^ y ≠ 0 := fun e => h (xor_eq_zero e)
theorem xor_mid (a b c : Nat) : a ^^^ c = (a ^^^ b) ^^^ (b ^^^ c) := by
  rw [Nat.xor_assoc, ← Nat.xor_assoc b b c, Nat.xor_self, Nat.zero_xor]
theorem cauchy_ker (n : Nat) : ∀ (a b x : Nat → Nat), (∀ i, a i < 256) → (∀ i, b i < 256) → (∀ i, x i < 256) → (∀ i j, i < n → j < n → a i = a j → i = j) → (∀ i j, i < n → j < n → b i = b j → i = j) →
    (∀ i j, i < n → j < n → a i ≠ b j) → (∀ i, i < n → xs n (fun j => mul (inv (a i ^^^ b j)) (x j)) = 0) → ∀ j, j < n → x j = 0 := by
  induction n with
  | zero => intro a b x _ _ _ _ _ _ _ j hj; omega
  | succ n ih =>
    intro a b x ha hb hx ia ib hab hz
    have d8 : ∀ i j, a i ^^^ b j < 256 := fun i j => xor_lt (ha i) (hb j)
    have d0 : ∀ i j, i < n + 1 → j < n + 1 → a i ^^^ b j ≠ 0 := fun i j hi hj => xor_ne (hab i j hi hj)
    -- each row, times its sum with the last column's byte
    have hT : ∀ i, i < n + 1 → xs n (fun j => mul (b n ^^^ b j) (mul (inv (a i ^^^ b j)) (x j))) = xs (n + 1) x := by
      intro i hi
      have h1 : mul (a i ^^^ b n) (xs (n + 1) fun j => mul (inv (a i ^^^ b j)) (x j)) = 0 := by rw [hz i hi, mul_zero]
      rw [mul_xs _ fun _ _ => mul_lt _ _] at h1
      have h2 : ∀ j, j < n + 1 → mul (a i ^^^ b n) (mul (inv (a i ^^^ b j)) (x j)) = x j ^^^ mul (b n ^^^ b j) (mul (inv (a i ^^^ b j)) (x j)) := by
        intro j hj
        rw [xor_mid (a i) (b j) (b n), xor_mul (d8 i j) (xor_lt (hb j) (hb n)), ← mul_assoc (a i ^^^ b j), mul_inv (d0 i j hi hj) (d8 i j), one_mul (hx j), Nat.xor_comm (b j) (b n)]
      rw [xs_congr h2, xs_xor] at h1
      have h3 := xor_eq_zero h1
      rw [h3]
      show _ = xs n _ ^^^ mul (b n ^^^ b n) _
      rw [Nat.xor_self, zero_mul, Nat.xor_zero]
    have hy : ∀ j, j < n → mul (x j) (mul (b n ^^^ b j) (inv (a n ^^^ b j))) = 0 := by
      refine ih a b (fun j => mul (x j) (mul (b n ^^^ b j) (inv (a n ^^^ b j)))) ha hb (fun _ => mul_lt _ _) (fun i j hi hj e => ia i j (by omega) (by omega) e) (fun i j hi hj e => ib i j (by omega) (by omega) e) (fun i j hi hj => hab i j (by omega) (by omega)) fun i hi => ?_
      have h1 : xs n (fun j => mul (b n ^^^ b j) (mul (inv (a i ^^^ b j)) (x j))) ^^^ xs n (fun j => mul (b n ^^^ b j) (mul (inv (a n ^^^ b j)) (x j))) = 0 := by
        rw [hT i (by omega), hT n (by omega), Nat.xor_self]
      rw [← xs_xor] at h1
      have hA : a i ^^^ a n ≠ 0 := xor_ne fun e => by have := ia i n (by omega) (by omega) e; omega
      have h2 : ∀ j, j < n → mul (b n ^^^ b j) (mul (inv (a i ^^^ b j)) (x j)) ^^^ mul (b n ^^^ b j) (mul (inv (a n ^^^ b j)) (x j)) = mul (a i ^^^ a n) (mul (inv (a i ^^^ b j)) (mul (x j) (mul (b n ^^^ b j) (inv (a n ^^^ b j))))) := by
        intro j hj
        have e1 : mul (a i ^^^ b j) (inv (a i ^^^ b j)) = 1 := mul_inv (d0 i j (by omega) (by omega)) (d8 i j)
        have e2 : mul (a n ^^^ b j) (inv (a n ^^^ b j)) = 1 := mul_inv (d0 n j (by omega) (by omega)) (d8 n j)
        rw [xor_mid (a i) (b j) (a n), xor_mul (d8 i j) (xor_lt (hb j) (ha n)), Nat.xor_comm (b j) (a n)]
        have f1 : mul (a i ^^^ b j) (mul (inv (a i ^^^ b j)) (mul (x j) (mul (b n ^^^ b j) (inv (a n ^^^ b j))))) = mul (b n ^^^ b j) (mul (inv (a n ^^^ b j)) (x j)) := by
          rw [← mul_assoc (a i ^^^ b j), e1, one_mul (mul_lt _ _)]
          ac_rfl
        have f2 : mul (a n ^^^ b j) (mul (inv (a i ^^^ b j)) (mul (x j) (mul (b n ^^^ b j) (inv (a n ^^^ b j))))) = mul (b n ^^^ b j) (mul (inv (a i ^^^ b j)) (x j)) := by
          have : mul (a n ^^^ b j) (mul (inv (a i ^^^ b j)) (mul (x j) (mul (b n ^^^ b j) (inv (a n ^^^ b j))))) = mul (mul (a n ^^^ b j) (inv (a n ^^^ b j))) (mul (b n ^^^ b j) (mul (inv (a i ^^^ b j)) (x j))) := by ac_rfl
          rw [this, e2, one_mul (mul_lt _ _)]
        rw [f1, f2, Nat.xor_comm]
      rw [xs_congr h2, ← mul_xs _ fun _ _ => mul_lt _ _] at h1
      exact mul_eq_zero hA h1
    have hx0 : ∀ j, j < n → x j = 0 := by
      intro j hj
      have h1 := hy j hj
      rw [mul_comm] at h1
      refine mul_eq_zero (mul_pos (xor_ne fun e => ?_) (inv_pos (d0 n j (by omega) (by omega)))) h1
      have := ib n j (by omega) (by omega) e
      omega
    intro j hj
    rcases Nat.lt_or_ge j n with h | h
    · exact hx0 j h
    · obtain rfl : j = n := by omega
      have h1 := hz j (by omega)
      rw [xs, xs_zero fun s hs => by rw [hx0 s hs, mul_zero], Nat.zero_xor] at h1
      exact mul_eq_zero (inv_pos (d0 j j (by omega) (by omega))) h1
end GfM

theorem idx_lt {n i j : Nat} (hi : i < n) (hj : j < n) : i * n + j < n * n := by
  have := Nat.mul_le_mul_right n (show i + 1 ≤ n from hi)
  rw [Nat.add_mul] at this
  omega
theorem idx_inj {n i j k l : Nat} (hj : j < n) (hl : l < n) (h : i * n + j = k * n + l) : i = k ∧ j = l := by
  have h1 : (i * n + j) / n = i := by rw [Nat.mul_comm, Nat.mul_add_div (by omega), Nat.div_eq_of_lt hj, Nat.add_zero]
  have h2 : (k * n + l) / n = k := by rw [Nat.mul_comm, Nat.mul_add_div (by omega), Nat.div_eq_of_lt hl, Nat.add_zero]
  have e : i = k := by rw [← h1, ← h2, h]
  subst e
  exact ⟨rfl, by omega⟩
def updM (N : GfM.Mx) (i k v : Nat) : GfM.Mx := fun a b => if a = i ∧ b = k then v else N a b
/-- The two rows of an elimination: N's left half at block ga, its right one at block gb; block P for the answer. -/
structure RI (w : World) (P ga gb n : Nat) (N : GfM.Mx) (wr : World) : Prop where
  ca : ∀ i j, i < n → j < n → wr.cell? ⟨ga, i * n + j, none⟩ = some (.int .u8 (N i j))
  cb : ∀ i j, i < n → j < n → wr.cell? ⟨gb, i * n + j, none⟩ = some (.int .u8 (N i (n + j)))
  fa : ∀ i, wr.frozen? ⟨ga, i, none⟩ = false
  fb : ∀ i, wr.frozen? ⟨gb, i, none⟩ = false
  sm : ∀ i j, N i j < 256
  ne : ga ≠ gb
  up : Up Nul w wr
  oa : w.heap.size ≤ ga
  ob : w.heap.size ≤ gb
  oP : w.heap.size ≤ P
  Pa : P ≠ ga
  Pb : P ≠ gb
  lb : gb < wr.heap.size
  st0 : wr.heap[P]? = some (.cells #[.int .i64 0, .int .i64 0, .slice none 0 0] 100 (0, 0))
theorem RI.drewN {w wr : World} {P ga gb n : Nat} {N : GfM.Mx} (h : RI w P ga gb n N wr) (d : Nat) : RI w P ga gb n N (wr.drewN d) :=
  { h with ca := h.ca, cb := h.cb, fa := h.fa, fb := h.fb, up := h.up.drewN d, lb := h.lb, st0 := h.st0 }
theorem RI.congr {w wr : World} {P ga gb n : Nat} {N M : GfM.Mx} (h : RI w P ga gb n N wr) (hM : GfM.Small M) (e : ∀ i j, i < n → j < n + n → N i j = M i j) : RI w P ga gb n M wr :=
  { h with ca := fun i j hi hj => by rw [← e i j hi (by omega)]; exact h.ca i j hi hj, cb := fun i j hi hj => by rw [← e i (n + j) hi (by omega)]; exact h.cb i j hi hj, sm := hM }
theorem scl_small {c v : Nat} {M : GfM.Mx} (h : GfM.Small M) : GfM.Small (fun i j => if i = c then GfM.mul (M c j) v else M i j) := fun i j => by
  show (if i = c then GfM.mul (M c j) v else M i j) < 256
  split
  · exact GfM.mul_lt _ _
  · exact h i j
theorem RI.setA {w wr : World} {P ga gb n : Nat} {N : GfM.Mx} (h : RI w P ga gb n N wr) {i k v : Nat} (hi : i < n) (hk : k < n) (hv : v < 256) : RI w P ga gb n (updM N i k v) (wr.setCell ⟨ga, i * n + k, none⟩ (.int .u8 v)) :=
  { h with
    ca := fun a b ha hb => by
      unfold updM
      by_cases e : a = i ∧ b = k
      · obtain ⟨e1, e2⟩ := e
        subst e1 e2
        rw [if_pos ⟨rfl, rfl⟩]
        exact World.cell?_setCell_same _ _ _ (h.ca a b ha hb)
      · rw [if_neg e, World.cell?_setCell_other _ _ _ _ (by intro e2; have := congrArg Addr.off e2; simp at this; first | exact e (idx_inj hb hk this) | exact e (idx_inj hb hk this.symm))]
        exact h.ca a b ha hb
    cb := fun a b ha hb => by
      unfold updM
      rw [if_neg (by omega), World.cell?_setCell_other _ _ _ _ (by intro e2; have := congrArg Addr.block e2; simp at this; have := h.ne; omega)]
      exact h.cb a b ha hb
    fa := fun j => by rw [World.frozen?_setCell]; exact h.fa j
    fb := fun j => by rw [World.frozen?_setCell]; exact h.fb j
    sm := fun a b => by
      unfold updM
      split
      · exact hv
      · exact h.sm a b
    up := h.up.setCell (p := ⟨ga, i * n + k, none⟩) (.inl h.oa) _
    lb := by simpa using h.lb
    st0 := (Below.heap_setCell _ _ _ _ h.Pa).trans h.st0 }
theorem RI.setB {w wr : World} {P ga gb n : Nat} {N : GfM.Mx} (h : RI w P ga gb n N wr) {i k v : Nat} (hi : i < n) (hk : k < n) (hv : v < 256) : RI w P ga gb n (updM N i (n + k) v) (wr.setCell ⟨gb, i * n + k, none⟩ (.int .u8 v)) :=
  { h with
    ca := fun a b ha hb => by
      unfold updM
      rw [if_neg (by omega), World.cell?_setCell_other _ _ _ _ (by intro e2; have := congrArg Addr.block e2; simp at this; have := h.ne; omega)]
      exact h.ca a b ha hb
    cb := fun a b ha hb => by
      unfold updM
      by_cases e : a = i ∧ b = k
      · obtain ⟨e1, e2⟩ := e
        subst e1 e2
        rw [if_pos ⟨rfl, rfl⟩]
        exact World.cell?_setCell_same _ _ _ (h.cb a b ha hb)
      · rw [if_neg (by omega), World.cell?_setCell_other _ _ _ _ (by intro e2; have := congrArg Addr.off e2; simp at this; first | exact e (idx_inj hb hk this) | exact e (idx_inj hb hk this.symm))]
        exact h.cb a b ha hb
    fa := fun j => by rw [World.frozen?_setCell]; exact h.fa j
    fb := fun j => by rw [World.frozen?_setCell]; exact h.fb j
    sm := fun a b => by
      unfold updM
      split
      · exact hv
      · exact h.sm a b
    up := h.up.setCell (p := ⟨gb, i * n + k, none⟩) (.inl h.ob) _
    lb := by simpa using h.lb
    st0 := (Below.heap_setCell _ _ _ _ h.Pb).trans h.st0 }
/-- The place of column j within its half. -/
def jj (n j : Nat) : Nat := if j < n then j else j - n
/-- The first k places of each half are F's, the others M's. -/
def Mix (n k : Nat) (F M N : GfM.Mx) : Prop := ∀ i j, i < n → j < n + n → N i j = if jj n j < k then F i j else M i j
theorem Mix.start {n : Nat} {F M N : GfM.Mx} (h : ∀ i j, i < n → j < n + n → N i j = M i j) : Mix n 0 F M N := fun i j hi hj => by rw [if_neg (by omega)]; exact h i j hi hj
theorem Mix.done {n : Nat} {F M N : GfM.Mx} (h : Mix n n F M N) : ∀ i j, i < n → j < n + n → N i j = F i j := fun i j hi hj => by
  rw [h i j hi hj, if_pos]
  unfold jj
  split <;> omega
theorem Mix.at {n k i : Nat} {F M N : GfM.Mx} (h : Mix n k F M N) (hi : i < n) (hk : k < n) : N i k = M i k ∧ N i (n + k) = M i (n + k) := by
  constructor
  · rw [h i k hi (by omega), if_neg]
    unfold jj
    rw [if_pos hk]
    omega
  · rw [h i (n + k) hi (by omega), if_neg]
    unfold jj
    rw [if_neg (by omega)]
    omega
/-- One place more of rows, the cells being told. -/
theorem Mix.next {n k : Nat} {F M N N' : GfM.Mx} (h : Mix n k F M N) (hk : k < n) (hs : ∀ i j, i < n → j < n + n → jj n j ≠ k → N' i j = N i j) (h1 : ∀ i, i < n → N' i k = F i k) (h2 : ∀ i, i < n → N' i (n + k) = F i (n + k)) : Mix n (k + 1) F M N' := fun i j hi hj => by
  by_cases e : jj n j = k
  · rw [if_pos (by omega)]
    unfold jj at e
    split at e
    · subst e; exact h1 i hi
    · have : j = n + k := by omega
      subst this
      exact h2 i hi
  · rw [hs i j hi hj e, h i j hi hj]
    by_cases e2 : jj n j < k
    · rw [if_pos e2, if_pos (by omega)]
    · rw [if_neg e2, if_neg (by omega)]
theorem jj_left {n k : Nat} (h : k < n) : jj n k = k := by unfold jj; rw [if_pos h]
theorem jj_right {n k : Nat} : jj n (n + k) = k := by unfold jj; rw [if_neg (by omega)]; omega
/-- Rows c and p changed for one another, at place k of both halves. -/
theorem swap_mix {n k c p : Nat} {M N : GfM.Mx} (h : Mix n k (GfM.swp c p M) M N) (hk : k < n) (hc : c < n) (hp : p < n) :
    Mix n (k + 1) (GfM.swp c p M) M (updM (updM (updM (updM N p k (N c k)) c k (N p k)) p (n + k) (N c (n + k))) c (n + k) (N p (n + k))) := by
  refine h.next hk (fun i j hi hj e => ?_) (fun i hi => ?_) fun i hi => ?_
  · have e1 : j ≠ k := fun e2 => e (by rw [e2, jj_left hk])
    have e2 : j ≠ n + k := fun e2 => e (by rw [e2, jj_right])
    unfold updM
    rw [if_neg (by omega), if_neg (by omega), if_neg (by omega), if_neg (by omega)]
  · have a1 := (h.at hc hk).1
    have a2 := (h.at hp hk).1
    have a3 := (h.at hi hk).1
    unfold updM GfM.swp
    rw [if_neg (by omega), if_neg (by omega), a1, a2]
    by_cases e1 : i = c
    · rw [if_pos ⟨e1, rfl⟩, if_pos e1]
    · rw [if_neg (by omega), if_neg e1]
      by_cases e2 : i = p
      · rw [if_pos ⟨e2, rfl⟩, if_pos e2]
      · rw [if_neg (by omega), if_neg e2, a3]
  · have a1 := (h.at hc hk).2
    have a2 := (h.at hp hk).2
    have a3 := (h.at hi hk).2
    unfold updM GfM.swp
    rw [a1, a2]
    by_cases e1 : i = c
    · rw [if_pos ⟨e1, rfl⟩, if_pos e1]
    · rw [if_neg (by omega), if_neg e1]
      by_cases e2 : i = p
      · rw [if_pos ⟨e2, rfl⟩, if_pos e2]
      · rw [if_neg (by omega), if_neg (by omega), if_neg (by omega), if_neg e2, a3]
/-- Row c times v. -/
def scl (c v : Nat) (M : GfM.Mx) : GfM.Mx := fun i j => if i = c then GfM.mul (M c j) v else M i j
theorem scale_mix {n k c v : Nat} {M N : GfM.Mx} (h : Mix n k (scl c v M) M N) (hk : k < n) (hc : c < n) :
    Mix n (k + 1) (scl c v M) M (updM (updM N c k (GfM.mul (N c k) v)) c (n + k) (GfM.mul (N c (n + k)) v)) := by
  refine h.next hk (fun i j hi hj e => ?_) (fun i hi => ?_) fun i hi => ?_
  · have e1 : j ≠ k := fun e2 => e (by rw [e2, jj_left hk])
    have e2 : j ≠ n + k := fun e2 => e (by rw [e2, jj_right])
    unfold updM
    rw [if_neg (by omega), if_neg (by omega)]
  · have a1 := (h.at hc hk).1
    have a3 := (h.at hi hk).1
    unfold updM scl
    rw [if_neg (by omega), a1]
    by_cases e1 : i = c
    · rw [if_pos ⟨e1, rfl⟩, if_pos e1]
    · rw [if_neg (by omega), if_neg e1, a3]
  · have a1 := (h.at hc hk).2
    have a3 := (h.at hi hk).2
    unfold updM scl
    rw [a1]
    by_cases e1 : i = c
    · rw [if_pos ⟨e1, rfl⟩, if_pos e1]
    · rw [if_neg (by omega), if_neg (by omega), if_neg e1, a3]
/-- Row r ^= u times row c. -/
def elm (r c u : Nat) (M : GfM.Mx) : GfM.Mx := fun i j => if i = r then M r j ^^^ GfM.mul u (M c j) else M i j
theorem elim_mix {n k r c u : Nat} {M N : GfM.Mx} (h : Mix n k (elm r c u M) M N) (hk : k < n) (hr : r < n) (hc : c < n) (hrc : r ≠ c) :
    Mix n (k + 1) (elm r c u M) M (updM (updM N r k (N r k ^^^ GfM.mul u (N c k))) r (n + k) (N r (n + k) ^^^ GfM.mul u (N c (n + k)))) := by
  refine h.next hk (fun i j hi hj e => ?_) (fun i hi => ?_) fun i hi => ?_
  · have e1 : j ≠ k := fun e2 => e (by rw [e2, jj_left hk])
    have e2 : j ≠ n + k := fun e2 => e (by rw [e2, jj_right])
    unfold updM
    rw [if_neg (by omega), if_neg (by omega)]
  · have a1 := (h.at hc hk).1
    have a2 := (h.at hr hk).1
    have a3 := (h.at hi hk).1
    unfold updM elm
    rw [if_neg (by omega), a1, a2]
    by_cases e1 : i = r
    · rw [if_pos ⟨e1, rfl⟩, if_pos e1]
    · rw [if_neg (by omega), if_neg e1, a3]
  · have a1 := (h.at hc hk).2
    have a2 := (h.at hr hk).2
    have a3 := (h.at hi hk).2
    unfold updM elm
    rw [a1, a2]
    by_cases e1 : i = r
    · rw [if_pos ⟨e1, rfl⟩, if_pos e1]
    · rw [if_neg (by omega), if_neg (by omega), if_neg e1, a3]
/-- The first r rows settled. -/
def Done (n r c p : Nat) (M N : GfM.Mx) : Prop := ∀ i j, i < n → j < n + n → N i j = if i < r then GfM.stl c p M i j else scl c (GfM.inv (M p c)) (GfM.swp c p M) i j
theorem scl_c {c p : Nat} {M : GfM.Mx} (j : Nat) : scl c (GfM.inv (M p c)) (GfM.swp c p M) c j = GfM.stl c p M c j := by
  unfold scl GfM.stl GfM.swp
  rw [if_pos rfl, if_pos rfl, if_pos rfl]
theorem Done.row {n r c p : Nat} {M N : GfM.Mx} (h : Done n r c p M N) (hc : c < n) (j : Nat) (hj : j < n + n) : N c j = GfM.mul (M p j) (GfM.inv (M p c)) := by
  have e : GfM.stl c p M c j = GfM.mul (M p j) (GfM.inv (M p c)) := by unfold GfM.stl; rw [if_pos rfl]
  rw [h c j hc hj, ← e]
  split
  · rfl
  · exact scl_c j
theorem Done.skip_c {n c p : Nat} {M N : GfM.Mx} (h : Done n c c p M N) (hc : c < n) : Done n (c + 1) c p M N := fun i j hi hj => by
  rw [h i j hi hj]
  by_cases e : i < c
  · rw [if_pos e, if_pos (by omega)]
  · rw [if_neg e]
    by_cases e2 : i = c
    · subst e2; rw [if_pos (by omega)]; exact scl_c j
    · rw [if_neg (by omega)]
theorem scl_ne {c p r : Nat} {M : GfM.Mx} (j : Nat) (h : r ≠ c) : scl c (GfM.inv (M p c)) (GfM.swp c p M) r j = GfM.swp c p M r j := by
  unfold scl
  rw [if_neg h]
theorem Done.skip_0 {n r c p : Nat} {M N : GfM.Mx} (h : Done n r c p M N) (hr : r < n) (hc : c < n) (hrc : r ≠ c) (h0 : N r c = 0) : Done n (r + 1) c p M N := fun i j hi hj => by
  rw [h i j hi hj]
  by_cases e : i < r
  · rw [if_pos e, if_pos (by omega)]
  · rw [if_neg e]
    by_cases e2 : i = r
    · subst e2
      rw [if_pos (by omega), scl_ne j hrc]
      have h1 := h i c hi (by omega)
      rw [if_neg (by omega), scl_ne c hrc, h0] at h1
      unfold GfM.stl
      rw [if_neg hrc, ← h1, GfM.mul_zero, Nat.xor_zero]
    · rw [if_neg (by omega)]
theorem Done.next {n r c p u : Nat} {M N N' : GfM.Mx} (h : Done n r c p M N) (hr : r < n) (hc : c < n) (hrc : r ≠ c) (hu : N r c = u) (hN : ∀ i j, i < n → j < n + n → N' i j = elm r c u N i j) : Done n (r + 1) c p M N' := fun i j hi hj => by
  rw [hN i j hi hj]
  unfold elm
  by_cases e2 : i = r
  · subst e2
    have h1 := h i c hi (by omega)
    have h2 := h i j hi hj
    rw [if_neg (by omega), scl_ne c hrc, hu] at h1
    rw [if_neg (by omega), scl_ne j hrc] at h2
    rw [if_pos rfl, if_pos (by omega), h.row hc j hj, h2, h1]
    unfold GfM.stl
    rw [if_neg hrc, GfM.mul_comm]
  · rw [if_neg e2, h i j hi hj]
    by_cases e : i < r
    · rw [if_pos e, if_pos (by omega)]
    · rw [if_neg e, if_neg (by omega)]
namespace GfM

theorem nodup_le : ∀ (l l' : List Nat), l.Nodup → (∀ a ∈ l, a ∈ l') → l.length ≤ l'.length
  | [], _, _, _ => Nat.zero_le _
  | a :: l, l', nd, h => by
    have ha := h a (List.mem_cons_self ..)
    have h1 : ∀ b ∈ l, b ∈ l'.erase a := fun b hb => (List.mem_erase_of_ne (by rintro rfl; exact (List.nodup_cons.1 nd).1 hb)).2 (h b (List.mem_cons_of_mem _ hb))
    have h2 := nodup_le l (l'.erase a) (List.nodup_cons.1 nd).2 h1
    have e := List.length_erase_of_mem ha
    have h3 : 0 < l'.length := List.length_pos_of_mem ha
    simp only [List.length_cons]
    omega
/-- The sum over some places. -/
def xl (l : List Nat) (f : Nat → Nat) : Nat := l.foldr (fun s a => f s ^^^ a) 0
theorem xl_cons (s : Nat) (l : List Nat) (f : Nat → Nat) : xl (s :: l) f = f s ^^^ xl l f := rfl
theorem xl_append (l m : List Nat) (f : Nat → Nat) : xl (l ++ m) f = xl l f ^^^ xl m f := by
  induction l with
  | nil => simp [xl]
  | cons s l ih => rw [List.cons_append, xl_cons, xl_cons, ih, Nat.xor_assoc]
theorem xs_filter (k : Nat) (p : Nat → Bool) (f : Nat → Nat) (h : ∀ s, s < k → p s = false → f s = 0) : xs k f = xl ((List.range k).filter p) f := by
  induction k with
  | zero => rfl
  | succ k ih =>
    rw [xs, ih fun s hs => h s (by omega), List.range_succ, List.filter_append, xl_append]
    congr 1
    by_cases hp : p k = true
    · simp [hp, xl]
    · have hp' : p k = false := by simpa using hp
      simp [hp', xl, h k (by omega) hp']
theorem xl_xs (l : List Nat) (f : Nat → Nat) : xl l f = xs l.length fun i => f (l.getD i 0) := by
  induction l with
  | nil => rfl
  | cons s l ih =>
    rw [xl_cons, ih, List.length_cons, Nat.add_comm, xs_add 1]
    congr 1
    · simp [xs]
    · exact xs_congr fun i _ => by rw [Nat.add_comm 1 i]; rfl
theorem filter_len (l : List Nat) (p : Nat → Bool) : (l.filter p).length + (l.filter fun x => !p x).length = l.length := by
  induction l with
  | nil => rfl
  | cons s l ih =>
    by_cases h : p s = true
    · simp [h]; omega
    · have h' : p s = false := by simpa using h
      simp [h']; omega
theorem nodup_at {l : List Nat} (nd : l.Nodup) {i j : Nat} (hi : i < l.length) (hj : j < l.length) (e : l.getD i 0 = l.getD j 0) : i = j := by
  refine (List.getElem?_inj hi nd).1 ?_
  simp only [List.getD_eq_getElem?_getD, List.getElem?_eq_getElem hi, List.getElem?_eq_getElem hj, Option.getD_some] at e ⊢
  rw [e]
theorem getD_mem {l : List Nat} {i : Nat} (hi : i < l.length) : l.getD i 0 ∈ l := by
  simp only [List.getD_eq_getElem?_getD, List.getElem?_eq_getElem hi, Option.getD_some]
  exact List.getElem_mem hi
/-- Rows of the unit's and of a Cauchy matrix: they make nought of nought alone. -/
theorem mixed_ker (k : Nat) (π a b x : Nat → Nat) (ha : ∀ t, a t < 256) (hb : ∀ i, b i < 256) (hx : ∀ i, x i < 256)
    (iπ : ∀ i j, i < k → j < k → π i = π j → i = j) (ia : ∀ i j, i < k → j < k → k ≤ π i → k ≤ π j → a (π i) = a (π j) → i = j)
    (ib : ∀ i j, i < k → j < k → b i = b j → i = j) (hab : ∀ i j, i < k → k ≤ π i → j < k → a (π i) ≠ b j)
    (h1 : ∀ i, i < k → π i < k → x (π i) = 0) (h2 : ∀ i, i < k → k ≤ π i → xs k (fun j => mul (inv (a (π i) ^^^ b j)) (x j)) = 0) : ∀ j, j < k → x j = 0 := by
  obtain ⟨Ml, hM⟩ : ∃ l, l = (List.range k).filter fun j => decide (x j ≠ 0) := ⟨_, rfl⟩
  obtain ⟨Pl, hP⟩ : ∃ l, l = (List.range k).filter fun i => decide (k ≤ π i) := ⟨_, rfl⟩
  obtain ⟨Hl, hH⟩ : ∃ l, l = (List.range k).filter fun i => !decide (k ≤ π i) := ⟨_, rfl⟩
  have mM : ∀ j, j ∈ Ml ↔ j < k ∧ x j ≠ 0 := fun j => by rw [hM]; simp
  have mP : ∀ i, i ∈ Pl ↔ i < k ∧ k ≤ π i := fun i => by rw [hP]; simp
  have mH : ∀ i, i ∈ Hl ↔ i < k ∧ π i < k := fun i => by rw [hH]; simp
  have nM : Ml.Nodup := by rw [hM]; exact List.nodup_range.filter _
  have nP : Pl.Nodup := by rw [hP]; exact List.nodup_range.filter _
  have nH : Hl.Nodup := by rw [hH]; exact List.nodup_range.filter _
  have hPH : Pl.length + Hl.length = k := by rw [hP, hH, filter_len]; simp
  have nHm : (Hl.map π).Nodup := by
    unfold List.Nodup
    rw [List.pairwise_map]
    exact nH.imp_of_mem fun {i j} hi hj hne e => hne (iπ i j ((mH i).1 hi).1 ((mH j).1 hj).1 e)
  have hle : Ml.length ≤ Pl.length := by
    have nd : (Ml ++ Hl.map π).Nodup := List.nodup_append.2 ⟨nM, nHm, fun u hu v hv e => by
      obtain ⟨i, hi, rfl⟩ := List.mem_map.1 hv
      have := h1 i ((mH i).1 hi).1 ((mH i).1 hi).2
      exact ((mM u).1 hu).2 (by rw [e]; exact this)⟩
    have hsub := nodup_le (Ml ++ Hl.map π) (List.range k) nd fun u hu => by
      rcases List.mem_append.1 hu with hu | hu
      · exact List.mem_range.2 ((mM u).1 hu).1
      · obtain ⟨i, hi, rfl⟩ := List.mem_map.1 hu
        exact List.mem_range.2 ((mH i).1 hi).2
    simp at hsub
    omega
  have hk := cauchy_ker Ml.length (fun i => a (π (Pl.getD i 0))) (fun j => b (Ml.getD j 0)) (fun j => x (Ml.getD j 0)) (fun _ => ha _) (fun _ => hb _) (fun _ => hx _)
    (fun i j hi hj e => by
      have p1 := (mP _).1 (getD_mem (l := Pl) (i := i) (by omega))
      have p2 := (mP _).1 (getD_mem (l := Pl) (i := j) (by omega))
      exact nodup_at nP (by omega) (by omega) (ia _ _ p1.1 p2.1 p1.2 p2.2 e))
    (fun i j hi hj e => nodup_at nM hi hj (ib _ _ ((mM _).1 (getD_mem hi)).1 ((mM _).1 (getD_mem hj)).1 e))
    (fun i j hi hj => by
      have p1 := (mP _).1 (getD_mem (l := Pl) (i := i) (by omega))
      exact hab _ _ p1.1 p1.2 ((mM _).1 (getD_mem hj)).1)
    (fun i hi => by
      have p1 := (mP _).1 (getD_mem (l := Pl) (i := i) (by omega))
      have h := h2 _ p1.1 p1.2
      rw [xs_filter k (fun j => decide (x j ≠ 0)) _ (fun s _ hs => by
        have : x s = 0 := by simpa using hs
        rw [this, mul_zero]), ← hM, xl_xs] at h
      exact h)
  intro j hj
  refine Classical.byContradiction fun h0 => ?_
  obtain ⟨i, hi, e⟩ := List.mem_iff_getElem.1 ((mM j).2 ⟨hj, h0⟩)
  have h := hk i hi
  simp only [List.getD_eq_getElem?_getD, List.getElem?_eq_getElem hi, Option.getD_some, e] at h
  exact h0 h
/-- So they have an inverse. -/
theorem mixed_run {k : Nat} {π a b : Nat → Nat} {A : Mx} (hA : Small A) (ha : ∀ t, a t < 256) (hb : ∀ i, b i < 256)
    (iπ : ∀ i j, i < k → j < k → π i = π j → i = j) (ia : ∀ i j, i < k → j < k → k ≤ π i → k ≤ π j → a (π i) = a (π j) → i = j)
    (ib : ∀ i j, i < k → j < k → b i = b j → i = j) (hab : ∀ i j, i < k → k ≤ π i → j < k → a (π i) ≠ b j)
    (c1 : ∀ i j, i < k → π i < k → j < k → A i j = idm (π i) j) (c2 : ∀ i j, i < k → k ≤ π i → j < k → A i j = inv (a (π i) ^^^ b j)) : run k (beside k A) k ≠ none := by
  intro h
  obtain ⟨x, hx, ⟨j, hj, h0⟩, hz⟩ := run_singular hA h
  refine h0 (mixed_ker k π a b x ha hb hx iπ ia ib hab (fun i hi hp => ?_) (fun i hi hp => ?_) j hj)
  · have h := hz i hi
    unfold dt at h
    rw [xs_congr fun j hj => by rw [c1 i j hi hp hj], xs_one hp fun s hs hne => by unfold idm; rw [if_neg fun e => hne e.symm, zero_mul]] at h
    unfold idm at h
    rw [if_pos rfl, one_mul (hx _)] at h
    exact h
  · have h := hz i hi
    unfold dt at h
    rw [xs_congr fun j hj => by rw [c2 i j hi hp hj]] at h
    exact h
/-- What is multiplied is told by the inverse. -/
theorem undo {k : Nat} {A M : Mx} (hA : Small A) (h : run k (beside k A) k = some M) {d : Nat → Nat} (hd : ∀ i, d i < 256) {i : Nat} (hi : i < k) :
    xs k (fun s => mul (half k M i s) (xs k fun u => mul (A s u) (d u))) = d i := by
  have e := mm_assoc k k (half k M) A (fun u _ => d u) i 0
  have e1 : mm k (half k M) (mm k A fun u _ => d u) i 0 = xs k fun s => mul (half k M i s) (xs k fun u => mul (A s u) (d u)) := rfl
  rw [← e1, ← e, mm_congr (A' := idm) (B' := fun u _ => d u) (fun s hs => (run_inverse hA h).2.2 i s hi hs) fun _ _ => rfl]
  exact id_mm (A := fun u _ => d u) (fun i _ => hd i) hi
end GfM

/-- n slices of bytes, one behind the other: of each its length is known. -/
def RowL (w : World) (g o n : Nat) (l : Nat → Nat) : Prop := ∀ i, i < n → ∃ a cap, w.cell? ⟨g, o + i, none⟩ = some (.slice a (l i) cap)
theorem RowL.up {S : Nat → Prop} {w w' : World} {g o n : Nat} {l : Nat → Nat} (h : RowL w g o n l) (u : Up S w w') (hb : g < w.heap.size) (hs : ¬ S g) : RowL w' g o n l := fun i hi => by
  obtain ⟨a, cap, e⟩ := h i hi
  exact ⟨a, cap, (u.cell (p := ⟨g, o + i, none⟩) hb hs).trans e⟩
/-- A shard in a cell: nothing, or a row. -/
def Shd (FS : List Nat) (w : World) (v : Value) : Option (List Nat) → Prop
  | none => v = .slice none 0 0
  | some z => ∃ b o cap, v = .slice (some ⟨b, o, none⟩) z.length cap ∧ LR FS w b o z
/-- n shards, one behind the other. -/
structure LL (FS : List Nat) (w : World) (g o n : Nat) (S : Nat → Option (List Nat)) : Prop where
  cells : ∀ i, i < n → ∃ v, w.cell? ⟨g, o + i, none⟩ = some v ∧ Shd FS w v (S i)
  lt : g < w.heap.size
  b : g ∉ FS
theorem Shd.nxt {FS : List Nat} {w w' : World} {v : Value} {x : Option (List Nat)} (h : Shd FS w v x) (n : Nxt FS w w') : Shd FS w' v x := by
  cases x with
  | none => exact h
  | some z =>
    obtain ⟨b, o, cap, e, r⟩ := h
    exact ⟨b, o, cap, e, r.nxt n⟩
theorem Shd.newF {FS : List Nat} {w w' : World} {G : Nat} {v : Value} {x : Option (List Nat)} (h : Shd FS w v x) (n : NewF w w' G) : Shd (G :: FS) w' v x := by
  cases x with
  | none => exact h
  | some z =>
    obtain ⟨b, o, cap, e, r⟩ := h
    exact ⟨b, o, cap, e, r.newF n⟩
theorem LL.nxt {FS : List Nat} {w w' : World} {g o n : Nat} {S : Nat → Option (List Nat)} (h : LL FS w g o n S) (m : Nxt FS w w') : LL FS w' g o n S :=
  ⟨fun i hi => by
    obtain ⟨v, hv, hs⟩ := h.cells i hi
    exact ⟨v, (m.up.cell (p := ⟨g, o + i, none⟩) h.lt h.b).trans hv, hs.nxt m⟩, Nat.lt_of_lt_of_le h.lt m.up.size, h.b⟩
theorem LL.newF {FS : List Nat} {w w' : World} {g o n G : Nat} {S : Nat → Option (List Nat)} (h : LL FS w g o n S) (m : NewF w w' G) : LL (G :: FS) w' g o n S :=
  ⟨fun i hi => by
    obtain ⟨v, hv, hs⟩ := h.cells i hi
    exact ⟨v, (m.n.up.cell (p := ⟨g, o + i, none⟩) h.lt id).trans hv, hs.newF m⟩, Nat.lt_of_lt_of_le h.lt m.n.up.size, fun hm => by
    rcases List.mem_cons.1 hm with e | hm
    · have := h.lt
      have := m.eq
      omega
    · exact h.b hm⟩
theorem LL.at {FS : List Nat} {w : World} {g o n i : Nat} {S : Nat → Option (List Nat)} {z : List Nat} (h : LL FS w g o n S) (hi : i < n) (e : S i = some z) :
    ∃ b so cap, w.cell? ⟨g, o + i, none⟩ = some (.slice (some ⟨b, so, none⟩) z.length cap) ∧ LR FS w b so z := by
  obtain ⟨v, hv, hs⟩ := h.cells i hi
  rw [e] at hs
  obtain ⟨b, so, cap, rfl, r⟩ := hs
  exact ⟨b, so, cap, hv, r⟩
theorem LL.not {FS : List Nat} {w : World} {g o n i : Nat} {S : Nat → Option (List Nat)} (h : LL FS w g o n S) (hi : i < n) (e : S i = none) : w.cell? ⟨g, o + i, none⟩ = some (.slice none 0 0) := by
  obtain ⟨v, hv, hs⟩ := h.cells i hi
  rw [e] at hs
  rw [hv, show v = _ from hs]
theorem LL.lens {FS : List Nat} {w : World} {g o n : Nat} {S : Nat → Option (List Nat)} (h : LL FS w g o n S) : RowL w g o n fun i => ((S i).getD []).length := fun i hi => by
  cases e : S i with
  | none => exact ⟨none, 0, by simp only [e]; exact h.not hi e⟩
  | some z =>
    obtain ⟨b, so, cap, hv, _⟩ := h.at hi e
    exact ⟨_, cap, by simp only [e]; exact hv⟩
theorem LL.congr {FS : List Nat} {w : World} {g o n : Nat} {S T : Nat → Option (List Nat)} (h : LL FS w g o n S) (e : ∀ i, i < n → S i = T i) : LL FS w g o n T :=
  ⟨fun i hi => by rw [← e i hi]; exact h.cells i hi, h.lt, h.b⟩
theorem LL.sub {FS : List Nat} {w : World} {g o n : Nat} {S : Nat → Option (List Nat)} (h : LL FS w g o n S) (d m : Nat) (hd : d + m ≤ n) : LL FS w g (o + d) m fun i => S (d + i) :=
  ⟨fun i hi => by rw [Nat.add_assoc]; exact h.cells (d + i) (by omega), h.lt, h.b⟩
theorem Elim.step {S : Nat → Prop} {W w w' : World} {F gl n m : Nat} {b : Nat → Nat} {L : Nat → List Nat} (h : Elim W F gl n m b L w) (u : Up S w w') (h1 : ¬ S gl) (h2 : ∀ i, i < n → ¬ S (b i)) (h3 : ∀ k, k < W.heap.size → S k → k = F) : Elim W F gl n m b L w' :=
  { h with
    lin := fun i hi => (u.cell (p := ⟨gl, i, none⟩) h.gll h1).trans (h.lin i hi), frz := fun i => (u.froz (p := ⟨gl, i, none⟩) h.gll h1).trans (h.frz i)
    gll := Nat.lt_of_lt_of_le h.gll u.size, rows := fun i hi => (h.rows i hi).up u (h2 i hi)
    up := ⟨u.os.trans h.up.os, u.tape.trans h.up.tape, u.output.trans h.up.output, Nat.le_trans h.up.size u.size, fun k hk hs => (u.block k (Nat.lt_of_lt_of_le hk h.up.size) fun e => hs (h3 k hk e)).trans (h.up.block k hk hs)⟩ }
theorem Elim.nul {W w w' : World} {F gl n m : Nat} {b : Nat → Nat} {L : Nat → List Nat} (h : Elim W F gl n m b L w) (u : Up Nul w w') : Elim W F gl n m b L w' := h.step u id (fun _ _ => id) fun _ _ => False.elim
theorem Elim.congr {W w : World} {F gl n m : Nat} {b : Nat → Nat} {L M : Nat → List Nat} (h : Elim W F gl n m b L w) (e : ∀ i, i < n → L i = M i) : Elim W F gl n m b M w :=
  { h with rows := fun i hi => by rw [← e i hi]; exact h.rows i hi, lens := fun i hi => by rw [← e i hi]; exact h.lens i hi }
theorem Elim.base {W w : World} {F gl n m d : Nat} {b : Nat → Nat} {L : Nat → List Nat} (h : Elim (W.drewN d) F gl n m b L w) : Elim W F gl n m b L w :=
  { h with glo := h.glo, own := h.own, up := ((Up.refl _ W).drewN d).trans h.up }
/-- One more line of noughts. -/
theorem Bes.make {W w : World} {gl n m k : Nat} {b : Nat → Nat} {L : Nat → List Nat} (h : Bes W gl n m k b L w) (hk : k < n) :
    Bes W gl n m (k + 1) (fun i => if i = k then w.heap.size else b i) (fun i => if i = k then zer m else L i) ((w.alloc (.cells (bys (zer m)) 5)).setCell ⟨gl, k, none⟩ (.slice (some ⟨w.heap.size, 0, none⟩) m m)) := by
  obtain ⟨v0, c0⟩ := (h.alloc (.cells (bys (zer m)) 5)).any k hk
  have hne : w.heap.size ≠ gl := by have := h.gll; omega
  exact h.next hk rfl (World.cell?_setCell_same _ _ _ c0) ((Blk.new w _ (zer_small _)).other (p := ⟨gl, k, none⟩) hne _) (zer_length _) (by simp) rfl rfl rfl
    (fun j hj hn => by rw [Below.heap_setCell _ _ _ _ hn]; exact Below.heap_alloc _ _ _ hj)
    (fun i hi => by
      rw [World.cell?_setCell_other _ _ _ _ (by intro e; have := congrArg Addr.off e; simp at this; omega)]
      exact World.cell?_alloc_past _ _ _ h.gll)
    fun i => by rw [World.frozen?_setCell]; exact (h.alloc _).frz i
/-- Lines, told as shards. -/
theorem Elim.ll {FS : List Nat} {W w0 w : World} {F gl n m : Nat} {b : Nat → Nat} {L : Nat → List Nat} (h : Elim W F gl n m b L w) (hs : LS w0 FS W) : LL FS w gl 0 n fun i => some (L i) :=
  ⟨fun i hi => by
    have hr := (h.rows i hi).row 0 m (by rw [h.lens i hi]; omega)
    rw [List.drop_zero, List.take_of_length_le (by rw [h.lens i hi]; exact Nat.le_refl _)] at hr
    refine ⟨_, by rw [Nat.zero_add]; exact h.lin i hi, b i, 0, m, by rw [h.lens i hi], hr, h.lt hi, hs.lt (h.own i hi).1⟩, h.gll, hs.lt h.glo⟩
/-- The product of the matrix z and the rows R, place by place: its row j. -/
def acrZ (k L : Nat) (z : List Nat) (R : Nat → List Nat) (j : Nat) : List Nat := tab L fun t => GfM.xs k fun s => GfM.mul (z.getD (j * k + s) 0) ((R s).getD t 0)
/-- The lines that are filled, and the column. -/
structure Acs (w : World) (F gl r L col k : Nat) (b : Nat → Nat) (P : Nat → List Nat) (y : List Nat) (wr : World) : Prop where
  el : Elim w F gl r L b P wr
  cb : Blk wr col y
  cl : y.length = k
  cw : w.heap.size ≤ col
  cg : col ≠ gl
  cr : ∀ i, i < r → col ≠ b i
  fld : Fld F wr
theorem Acs.put {w wr : World} {F gl r L col k : Nat} {b : Nat → Nat} {P : Nat → List Nat} {y : List Nat} (h : Acs w F gl r L col k b P y wr) (hF : F < w.heap.size) (i v : Nat) (hv : v < 256) :
    Acs w F gl r L col k b P (y.set i v) (wr.setCell ⟨col, i, none⟩ (.int .u8 v)) := by
  have u : Up (One col) wr (wr.setCell ⟨col, i, none⟩ (.int .u8 v)) := (Up.refl _ _).setCell (p := ⟨col, i, none⟩) (.inr (show One col col from rfl)) _
  have hc := h.cw
  exact ⟨h.el.step u (fun e => h.cg e.symm) (fun i hi e => h.cr i hi e.symm) (fun k hk e => by unfold One at e; omega), h.cb.set i v hv, by rw [List.length_set]; exact h.cl, h.cw, h.cg, h.cr, h.fld.up u (by unfold One; omega)⟩
theorem Acs.times {w wr w' : World} {F gl r L col k : Nat} {b : Nat → Nat} {P : Nat → List Nat} {y : List Nat} (h : Acs w F gl r L col k b P y wr) (hF : F < w.heap.size) (u : Up (One F) wr w') (f : Fld F w') : Acs w F gl r L col k b P y w' := by
  have hc := h.cw
  have hg := h.el.glo
  exact ⟨h.el.step u (by unfold One; omega) (fun i hi e => by have := (h.el.own i hi).1; unfold One at e; omega) fun k hk e => e, h.cb.up u (by unfold One; omega), h.cl, h.cw, h.cg, h.cr, f⟩
theorem Acs.turn {w wr : World} {F gl r L col k : Nat} {b : Nat → Nat} {P : Nat → List Nat} {y : List Nat} (h : Acs w F gl r L col k b P y wr) (hF : F < w.heap.size) {j : Nat} (hj : j < r) (t v : Nat) (hv : v < 256) :
    Acs w F gl r L col k b (updL P j ((P j).set t v)) y (wr.setCell ⟨b j, t, none⟩ (.int .u8 v)) := by
  have u : Up (One (b j)) wr (wr.setCell ⟨b j, t, none⟩ (.int .u8 v)) := (Up.refl _ _).setCell (p := ⟨b j, t, none⟩) (.inr (show One (b j) (b j) from rfl)) _
  have hb := (h.el.own j hj).1
  exact ⟨h.el.turn hj ((h.el.rows j hj).set t v hv) (by rw [List.length_set]; exact h.el.lens j hj) u, h.cb.up u (fun e => h.cr j hj e), h.cl, h.cw, h.cg, h.cr, h.fld.up u (by unfold One; omega)⟩
/-- Places t of the first j lines are told, and all ahead of t. -/
def Tld (r L t j : Nat) (V : Nat → Nat → Nat) (P : Nat → List Nat) : Prop := ∀ i, i < r → ∀ u, u < L → (u < t ∨ (u = t ∧ i < j)) → (P i).getD u 0 = V i u
theorem Tld.next {r L t j v : Nat} {V : Nat → Nat → Nat} {P : Nat → List Nat} (h : Tld r L t j V P) (hl : ∀ i, i < r → (P i).length = L) (hj : j < r) (ht : t < L) (hv : V j t = v) : Tld r L t (j + 1) V (updL P j ((P j).set t v)) := by
  intro i hi u hu hc
  unfold updL
  by_cases e : i = j
  · subst e
    rw [if_pos rfl, getD_set _ _ _ _ (by rw [hl i hi]; exact ht)]
    by_cases e2 : u = t
    · rw [if_pos e2, e2, hv]
    · rw [if_neg e2]
      exact h i hi u hu (by omega)
  · rw [if_neg e]
    exact h i hi u hu (by omega)
theorem Tld.line {r L t : Nat} {V : Nat → Nat → Nat} {P : Nat → List Nat} (h : Tld r L t r V P) : Tld r L (t + 1) 0 V P := fun i hi u hu hc => h i hi u hu (by omega)
end Go.Proofs.YtkenfabnbmkhbaaGreat
