/- The calls of matrices as the laws use them: several Fields, several Matrices, rows. -/
import Derived.Test.YtebglmfdchfplaaMatUnit
namespace Go.Proofs.Ytebglmfdchfplaa
open Go.RowKit
set_option linter.unusedVariables false

theorem Newed.up {w w' : World} (h : Newed w w') : Up Nul w w' := Up.of_below h.below _
def Fs (FS : List Nat) (k : Nat) : Prop := k ∈ FS
/-- One step: nothing that was there turns but the Fields, and they are Fields still. -/
structure Nxt (FS : List Nat) (w w' : World) : Prop where
  up : Up (Fs FS) w w'
  fld : ∀ F, F ∈ FS → Fld F w'
/-- Where a law stands: its Fields are its own. -/
structure LS (w0 : World) (FS : List Nat) (w : World) : Prop where
  up : Up Nul w0 w
  fld : ∀ F, F ∈ FS → Fld F w
  own : ∀ F, F ∈ FS → w0.heap.size ≤ F
/-- A Matrix of the law's. -/
structure LM (FS : List Nat) (w : World) (p q F r c : Nat) (z : List Nat) : Prop where
  mat : Mat w p q F r c z
  F : F ∈ FS
  p : p ∉ FS
  q : q ∉ FS
/-- A row. -/
structure LR (FS : List Nat) (w : World) (b o : Nat) (z : List Nat) : Prop where
  row : Row w b o z
  lt : b < w.heap.size
  b : b ∉ FS
theorem Nxt.trans {FS : List Nat} {u v w : World} (h : Nxt FS u v) (k : Nxt FS v w) : Nxt FS u w := ⟨h.up.trans k.up, k.fld⟩
theorem LS.lt {w0 w : World} {FS : List Nat} (h : LS w0 FS w) {k : Nat} (hk : w.heap.size ≤ k) : k ∉ FS := fun hm => by have := (h.fld k hm).lt; omega
theorem LS.nxt {w0 w w' : World} {FS : List Nat} (h : LS w0 FS w) (n : Nxt FS w w') : LS w0 FS w' :=
  ⟨⟨n.up.os.trans h.up.os, n.up.tape.trans h.up.tape, n.up.output.trans h.up.output, Nat.le_trans h.up.size n.up.size, fun k hk hs => (n.up.block k (Nat.lt_of_lt_of_le hk h.up.size) fun hm => by have := h.own k hm; omega).trans (h.up.block k hk hs)⟩, n.fld, h.own⟩
theorem LM.nxt {FS : List Nat} {w w' : World} {p q F r c : Nat} {z : List Nat} (h : LM FS w p q F r c z) (n : Nxt FS w w') : LM FS w' p q F r c z := ⟨h.mat.up n.up h.p h.q, h.F, h.p, h.q⟩
theorem LR.nxt {FS : List Nat} {w w' : World} {b o : Nat} {z : List Nat} (h : LR FS w b o z) (n : Nxt FS w w') : LR FS w' b o z := ⟨h.row.up n.up h.lt h.b, Nat.lt_of_lt_of_le h.lt n.up.size, h.b⟩
theorem LS.nul {w0 w w' : World} {FS : List Nat} (h : LS w0 FS w) (u : Up Nul w w') : Nxt FS w w' := ⟨u.nul, fun F hF => (h.fld F hF).up (S := Nul) u id⟩
theorem LS.one {w0 w w' : World} {FS : List Nat} {F : Nat} (h : LS w0 FS w) (hF : F ∈ FS) (u : Up (One F) w w') (f : Fld F w') : Nxt FS w w' :=
  ⟨u.mono fun k _ e => by unfold One at e; subst e; exact hF, fun G hG => by
    by_cases e : G = F
    · subst e; exact f
    · exact (h.fld G hG).up u e⟩
theorem LS.refl {w0 w : World} {FS : List Nat} (h : LS w0 FS w) : Nxt FS w w := h.nul (Up.refl _ _)
theorem LS.alloc {w0 w : World} {FS : List Nat} (h : LS w0 FS w) (o : Obj) : Nxt FS w (w.alloc o) := h.nul ((Up.refl _ _).alloc o)
theorem LS.drewN {w0 w : World} {FS : List Nat} (h : LS w0 FS w) (n : Nat) : Nxt FS w (w.drewN n) := h.nul ((Up.refl _ _).drewN n)
theorem LS.drew {w0 w : World} {FS : List Nat} (h : LS w0 FS w) : Nxt FS w w.drew := h.nul ((Up.refl _ _).drew)
theorem LS.below {w0 w : World} {FS : List Nat} (h : LS w0 FS w) : Below w0.heap.size w0 w := h.up.below (Nat.le_refl _) fun _ _ h => h
theorem LS.start (w : World) : LS w [] w := ⟨Up.refl _ _, fun _ h => (List.not_mem_nil h).elim, fun _ h => (List.not_mem_nil h).elim⟩

/-- A new Field. -/
theorem LS.field {w0 w w' : World} {FS : List Nat} (h : LS w0 FS w) (n : Newed w w') : LS w0 (w.heap.size :: FS) w' :=
  ⟨h.up.trans n.up, fun F hF => by
    rcases List.mem_cons.1 hF with e | hF
    · subst e; exact n.fld
    · exact (h.fld F hF).up (S := Nul) n.up id, fun F hF => by
    rcases List.mem_cons.1 hF with e | hF
    · subst e; exact h.up.size
    · exact h.own F hF⟩
theorem LM.field {FS : List Nat} {w w' : World} {p q F r c : Nat} {z : List Nat} (h : LM FS w p q F r c z) (n : Newed w w') : LM (w.heap.size :: FS) w' p q F r c z :=
  ⟨h.mat.up n.up id id, List.mem_cons_of_mem _ h.F, fun hm => by
    rcases List.mem_cons.1 hm with e | hm
    · have := h.mat.pl; omega
    · exact h.p hm, fun hm => by
    rcases List.mem_cons.1 hm with e | hm
    · have := h.mat.ql; omega
    · exact h.q hm⟩
theorem LR.field {FS : List Nat} {w w' : World} {b o : Nat} {z : List Nat} (h : LR FS w b o z) (n : Newed w w') : LR (w.heap.size :: FS) w' b o z :=
  ⟨h.row.up n.up h.lt id, Nat.lt_of_lt_of_le h.lt n.up.size, fun hm => by
    rcases List.mem_cons.1 hm with e | hm
    · have := h.lt; omega
    · exact h.b hm⟩
theorem newL {w0 w : World} {FS : List Nat} {F r c n b o cap : Nat} {z : List Nat} (h : LS w0 FS w) (hF : F ∈ FS) (r1 : 1 ≤ r) (r2 : r ≤ 32) (c1 : 1 ≤ c) (c2 : c ≤ 32) (hz : LR FS w b o z) (hl : z.length = n) (hn : n = r * c) :
    Calls Try.prog 33 #[.pointer (some ⟨F, 0, none⟩), .int .i64 r, .int .i64 c, .slice (some ⟨b, o, none⟩) n cap] w
      fun e w' => ∃ p q, e = .returned (.tuple #[.pointer (some ⟨p, 0, none⟩), .int .i64 0]) ∧ LM FS w' p q F r c z ∧ Nxt FS w w' :=
  (new_good F r c n b o cap z w (h.fld F hF).lt r1 r2 c1 c2 hz.row hz.lt hl hn).mono fun e w' ⟨h1, h2⟩ => ⟨_, _, h1, ⟨h2.mat, hF, h.lt (by omega), h.lt (by omega)⟩, h.nul h2.up⟩
theorem invertL {w0 w : World} {FS : List Nat} {p q F n : Nat} {z : List Nat} (h : LS w0 FS w) (hm : LM FS w p q F n n z) :
    Calls Try.prog 61 #[.pointer (some ⟨p, 0, none⟩)] w
      fun e w' => Nxt FS w w' ∧ ((GfM.run n (GfM.beside n (cz n z)) n = none ∧ e = .returned (.tuple #[.pointer none, .int .i64 2])) ∨
        ∃ M p3 q3, GfM.run n (GfM.beside n (cz n z)) n = some M ∧ e = .returned (.tuple #[.pointer (some ⟨p3, 0, none⟩), .int .i64 0]) ∧ LM FS w' p3 q3 F n n (tab (n * n) fun t => GfM.half n M (t / n) (t % n))) := by
  refine (invert_any p q F n z w hm.mat (h.fld F hm.F)).mono ?_
  rintro e w' ⟨h1, h2, h3 | ⟨M, h3, h4, h5⟩⟩
  · exact ⟨h.one hm.F h1 h2, .inl h3⟩
  · exact ⟨h.one hm.F h1 h2, .inr ⟨M, _, _, h3, h4, h5, hm.F, h.lt (by omega), h.lt (by omega)⟩⟩
theorem unitL {w0 w : World} {FS : List Nat} {F n : Nat} (h : LS w0 FS w) (hF : F ∈ FS) (n1 : 1 ≤ n) (n2 : n ≤ 32) :
    Calls Try.prog 31 #[.pointer (some ⟨F, 0, none⟩), .int .i64 n] w fun e w' => ∃ p q, e = .returned (.tuple #[.pointer (some ⟨p, 0, none⟩), .int .i64 0]) ∧ LM FS w' p q F n n (unitZ n) ∧ Nxt FS w w' :=
  (unit_good F n w (h.fld F hF).lt n1 n2).mono fun e w' ⟨h1, h2, h3⟩ => ⟨_, _, h1, ⟨h2, hF, h.lt (by omega), h.lt (by omega)⟩, h.nul h3⟩
theorem gfNewL {w0 w : World} {FS : List Nat} (h : LS w0 FS w) : Calls Try.prog 11 #[] w fun e w' => e = .returned (.pointer (some ⟨w.heap.size, 0, none⟩)) ∧ Newed w w' := new_any w

/-- A new Field F. -/
structure NewF (w w' : World) (F : Nat) : Prop where
  eq : F = w.heap.size
  n : Newed w w'
theorem LS.newF {w0 w w' : World} {FS : List Nat} {F : Nat} (h : LS w0 FS w) (n : NewF w w' F) : LS w0 (F :: FS) w' := by rw [n.eq]; exact h.field n.n
theorem LM.newF {FS : List Nat} {w w' : World} {p q F r c G : Nat} {z : List Nat} (h : LM FS w p q F r c z) (n : NewF w w' G) : LM (G :: FS) w' p q F r c z := by rw [n.eq]; exact h.field n.n
theorem LR.newF {FS : List Nat} {w w' : World} {b o G : Nat} {z : List Nat} (h : LR FS w b o z) (n : NewF w w' G) : LR (G :: FS) w' b o z := by rw [n.eq]; exact h.field n.n
theorem gfNewF (w : World) : Calls Try.prog 11 #[] w fun e w' => ∃ F, e = .returned (.pointer (some ⟨F, 0, none⟩)) ∧ NewF w w' F :=
  (new_any w).mono fun e w' ⟨h1, h2⟩ => ⟨_, h1, rfl, h2⟩

/-! ### What the products and inverses are, told of the rows of cells -/
theorem cz_small {n : Nat} {z : List Nat} (h : ∀ x ∈ z, x < 256) : GfM.Small (cz n z) := fun i j => small_getD h _
theorem tab_small {n : Nat} {f : Nat → Nat} (h : ∀ i, f i < 256) : ∀ x ∈ tab n f, x < 256 := by
  intro x hx
  obtain ⟨i, _, rfl⟩ := List.mem_map.1 hx
  exact h i
theorem cz_tab {n : Nat} {f : Nat → Nat → Nat} {i j : Nat} (hi : i < n) (hj : j < n) : cz n (tab (n * n) fun t => f (t / n) (t % n)) i j = f i j := by
  unfold cz
  have hlt : i * n + j < n * n := by
    have := Nat.mul_le_mul_right n (show i + 1 ≤ n from hi)
    rw [Nat.add_mul] at this
    omega
  rw [tab_at _ _ _ hlt, Nat.mul_comm i n, Nat.mul_add_mod, Nat.mod_eq_of_lt hj, Nat.mul_add_div (by omega), Nat.div_eq_of_lt hj, Nat.add_zero]
theorem tab_two {n : Nat} {f g : Nat → Nat → Nat} (h : ∀ i j, i < n → j < n → f i j = g i j) : (tab (n * n) fun t => f (t / n) (t % n)) = tab (n * n) fun t => g (t / n) (t % n) :=
  tab_congr fun t ht => by
    have hn : 0 < n := by
      rcases Nat.eq_zero_or_pos n with e | e
      · subst e; omega
      · exact e
    exact h _ _ ((Nat.div_lt_iff_lt_mul hn).2 ht) (Nat.mod_lt _ hn)
theorem prod_cz {n : Nat} (z z2 : List Nat) : prodZ n n n z z2 = tab (n * n) fun t => GfM.mm n (cz n z) (cz n z2) (t / n) (t % n) :=
  tab_congr fun t ht => GfM.xs_congr fun s hs => by
    unfold colOf cz
    rw [tab_at _ _ _ hs]
theorem unit_cz (n : Nat) : unitZ n = tab (n * n) fun t => GfM.idm (t / n) (t % n) := rfl
theorem z_cz {n : Nat} {z : List Nat} (hl : z.length = n * n) : z = tab (n * n) fun t => cz n z (t / n) (t % n) :=
  eq_tab hl fun t ht => by
    unfold cz
    rw [Nat.mul_comm, Nat.div_add_mod]
/-- A product with the unit. -/
theorem prod_unit {n : Nat} {z : List Nat} (hl : z.length = n * n) (hs : ∀ x ∈ z, x < 256) : prodZ n n n z (unitZ n) = z := by
  rw [prod_cz, unit_cz]
  conv => rhs; rw [z_cz hl]
  exact tab_two fun i j hi hj => by
    rw [GfM.mm_congr (A' := cz n z) (B' := GfM.idm) (fun _ _ => rfl) fun s hs => cz_tab hs hj]
    exact GfM.mm_id (cz_small hs) hj
theorem unit_prod {n : Nat} {z : List Nat} (hl : z.length = n * n) (hs : ∀ x ∈ z, x < 256) : prodZ n n n (unitZ n) z = z := by
  rw [prod_cz, unit_cz]
  conv => rhs; rw [z_cz hl]
  exact tab_two fun i j hi hj => by
    rw [GfM.mm_congr (A' := GfM.idm) (B' := cz n z) (fun s hs => cz_tab hi hs) fun _ _ => rfl]
    exact GfM.id_mm (cz_small hs) hi
/-- The inverse's cells. -/
def invZ (n : Nat) (M : GfM.Mx) : List Nat := tab (n * n) fun t => GfM.half n M (t / n) (t % n)
theorem invZ_length (n : Nat) (M : GfM.Mx) : (invZ n M).length = n * n := tab_length _ _
theorem prod_inv {n : Nat} {z : List Nat} {M : GfM.Mx} (hs : ∀ x ∈ z, x < 256) (h : GfM.run n (GfM.beside n (cz n z)) n = some M) : prodZ n n n z (invZ n M) = unitZ n := by
  rw [prod_cz, unit_cz]
  exact tab_two fun i j hi hj => by
    exact (GfM.mm_congr (A' := cz n z) (B' := GfM.half n M) (fun _ _ => rfl) fun s hs => cz_tab hs hj).trans ((GfM.run_inverse (cz_small hs) h).2.1 i j hi hj)
theorem inv_prod {n : Nat} {z : List Nat} {M : GfM.Mx} (hs : ∀ x ∈ z, x < 256) (h : GfM.run n (GfM.beside n (cz n z)) n = some M) : prodZ n n n (invZ n M) z = unitZ n := by
  rw [prod_cz, unit_cz]
  exact tab_two fun i j hi hj => by
    exact (GfM.mm_congr (A' := GfM.half n M) (B' := cz n z) (fun s hs => cz_tab hi hs) fun _ _ => rfl).trans ((GfM.run_inverse (cz_small hs) h).2.2 i j hi hj)
/-- Inverted twice. -/
theorem inv_inv {n : Nat} {z : List Nat} {M : GfM.Mx} (hl : z.length = n * n) (hs : ∀ x ∈ z, x < 256) (h : GfM.run n (GfM.beside n (cz n z)) n = some M) :
    ∃ M2, GfM.run n (GfM.beside n (cz n (invZ n M))) n = some M2 ∧ invZ n M2 = z := by
  obtain ⟨a1, a2, a3⟩ := GfM.run_inverse (cz_small hs) h
  have b1 : GfM.Small (cz n (invZ n M)) := cz_small (tab_small fun t => a1 _ _)
  have e1 : ∀ i j, i < n → j < n → GfM.mm n (cz n z) (cz n (invZ n M)) i j = GfM.idm i j := fun i j hi hj => by
    exact (GfM.mm_congr (A' := cz n z) (B' := GfM.half n M) (fun _ _ => rfl) fun s hs => cz_tab hs hj).trans (a2 i j hi hj)
  cases hr : GfM.run n (GfM.beside n (cz n (invZ n M))) n with
  | none => exact absurd hr (GfM.run_ne_none b1 e1)
  | some M2 =>
    obtain ⟨c1, c2, c3⟩ := GfM.run_inverse b1 hr
    refine ⟨M2, rfl, ?_⟩
    conv => rhs; rw [z_cz hl]
    exact tab_two fun i j hi hj => (GfM.inverse_one (cz_small hs) c1 e1 c2 hi hj).symm
end Go.Proofs.Ytebglmfdchfplaa
