/- Part 3 of what the walks rest on: MatMake, MatBeside, MatTimes, MatInvert, MatPick, MatUnit, MatLaw, MatCauchy, CodeWorld, CodeAlike, CodeThere, CodeConcat, CodeNew. -/
import Derived.Test.YtmaffnadmfphpaaCB2
namespace Go.Proofs.Ytmaffnadmfphpaa
open Go.RowKit
set_option linter.unusedVariables false

set_option maxHeartbeats 400000 in
/-- A Matrix of cells. -/
theorem new_good (F r c n b o cap : Nat) (z : List Nat) (w : World) (hF : F < w.heap.size) (r1 : 1 ≤ r) (r2 : r ≤ 32) (c1 : 1 ≤ c) (c2 : c ≤ 32) (hz : Row w b o z) (hb : b < w.heap.size) (hl : z.length = n) (hn : n = r * c) :
    Calls Try.prog 21 #[.pointer (some ⟨F, 0, none⟩), .int .i64 r, .int .i64 c, .slice (some ⟨b, o, none⟩) n cap] w
      fun e w' => e = .returned (.tuple #[.pointer (some ⟨w.heap.size + 1, 0, none⟩), .int .i64 0]) ∧ Newm w w' F r c z := by
  have H := hid (blank_good F r c w hF r1 r2 c1 c2)
  have HN := hid hn
  have HZ := hid hz
  have HL := hid hl
  have HB := hid hb
  clear hn hz hl hb
  go_enter Try.func21, Try.ntmps21
  go_wp2_with fail
  refine H.out.mono ?_
  rintro e w1 ⟨rfl, k1⟩
  have h3 := k1.mat.cells
  rw [← HN.out] at h3
  have hbk := k1.mat.blk
  rw [← HN.out] at hbk
  have HBK := hid hbk
  have hz1 := HZ.out.up k1.up HB.out id
  have HZ1 := hid hz1
  have K1 := hid k1
  clear k1 hz1 hbk
  go_wp2_with ((with_reducible refine wpList_copy_bytes rfl (.tmp 33) (.tmp 34) rfl w.heap.size 0 n n n b o cap (zer n) z HBK.out HZ1.out HL.out (Nat.le_refl _) (by rw [zer_length]; omega) rfl rfl ?_); intro w2 H1 H2)
  go_ret2
  refine ⟨rfl, ?_⟩
  have k1 := K1.out
  have e : over (zer n) 0 z = z := by
    simp [over, zer, HL.out]
  have h1 := H1.out
  rw [e] at h1
  have hs := k1.size
  have hne : w.heap.size + 1 ≠ w.heap.size := by omega
  have hu : ∀ j, w2.cell? ⟨w.heap.size + 1, j, none⟩ = w1.cell? ⟨w.heap.size + 1, j, none⟩ := fun j => H2.out.1.cell (p := ⟨w.heap.size + 1, j, none⟩) k1.mat.pl hne
  refine ⟨{ k1.mat with f := (hu 0).trans k1.mat.f, rows := (hu 1).trans k1.mat.rows, cols := (hu 2).trans k1.mat.cols, cells := (hu 3).trans k1.mat.cells, blk := h1, len := by rw [HL.out, HN.out], pl := Nat.lt_of_lt_of_le k1.mat.pl H2.out.1.size }, ?_, ?_⟩
  · have hu2 := H2.out.1
    exact ⟨hu2.os.trans k1.up.os, hu2.tape.trans k1.up.tape, hu2.output.trans k1.up.output, Nat.le_trans k1.up.size hu2.size, fun k hk hs => (hu2.block k (Nat.lt_of_lt_of_le hk k1.up.size) (by unfold One; omega)).trans (k1.up.block k hk hs)⟩
  · rw [H2.out.2, hs]
set_option maxRecDepth 100000 in
set_option maxHeartbeats 400000 in
theorem clone_any (b o n cap : Nat) (z : List Nat) (w : World) (hz : Row w b o z) (hb : b < w.heap.size) (hl : z.length = n) (hn : 0 < n) (hm : n ≤ 2000) :
    Calls Try.prog 31 #[.slice (some ⟨b, o, none⟩) n cap] w fun e w' => ∃ g cap', e = .returned (.slice (some ⟨g, 0, none⟩) n cap') ∧ Row w' g 0 z ∧ w.heap.size ≤ g ∧ g < w'.heap.size ∧ Up Nul w w' := by
  have HZ := hid hz
  have HB := hid hb
  have HL := hid hl
  have heq : ∀ w, (binOp BinOp.eql 52 (.slice (some ⟨b, o, none⟩) n cap) (.slice none 0 0)).run Try.prog w = .ok (.bool false) w := fun _ => by kernel_rfl
  have HO := hid (OwnB.fresh w.heap.size w (Nat.le_refl _))
  have HR : Hid (Row (w.alloc (.cells #[] 5)) b o z) := hz.up ((Up.refl Nul w).alloc _) hb id
  clear hz hb hl
  go_enter Try.func31, Try.ntmps31
  go_wp2_with (first
    | (at_builtin; (refine wpList_append_bytes rfl (.tmp 5) (.tmp 6) rfl w.heap.size _ [] rfl HO.out b o n cap z rfl HR.out HL.out (by simp; omega) (by simp) ?_); intro v' w2 H1 H2)
    | go_in)
  have h1 := H1.out
  rw [List.nil_append] at h1
  have hl := HL.out
  obtain ⟨g, cap', rfl, g1, g2, g3, g4, g5⟩ := h1.row (by omega)
  rw [hl]
  have G := hid (And.intro g1 (And.intro g2 g3))
  have hu : Up Nul w w2 := ((Up.refl Nul w).alloc _).grown H2.out fun k hk => by
    have : w.heap.size = k := by simpa [Value.ownBlock, Act.eval] using hk
    omega
  have HU := hid hu
  clear h1 hl g1 g2 g3 g4 g5 hu
  go_ret
  exact ⟨g, cap', rfl, G.out.2.2, G.out.1, G.out.2.1, HU.out⟩
theorem cells_any (p q F r c : Nat) (z : List Nat) (w : World) (hm : Mat w p q F r c z) :
    Calls Try.prog 22 #[.pointer (some ⟨p, 0, none⟩)] w fun e w' => ∃ g cap, e = .returned (.slice (some ⟨g, 0, none⟩) (r * c) cap) ∧ Row w' g 0 z ∧ w.heap.size ≤ g ∧ g < w'.heap.size ∧ Up Nul w w' := by
  have h3 := hm.cells
  have hr := hm.blk.row 0 (r * c) (by rw [hm.len]; omega)
  have e : (z.drop 0).take (r * c) = z := by rw [List.drop_zero, List.take_of_length_le (by rw [hm.len]; exact Nat.le_refl _)]
  rw [e] at hr
  have hmo := hm.most
  have hp := Nat.mul_le_mul hm.r1 hm.c1
  have H := fun k => hid (clone_any q 0 (r * c) k z w hr hm.ql hm.len (by omega) (by omega))
  generalize r * c = n at *
  clear hm hr e
  go_enter Try.func22, Try.ntmps22
  go_wp2_with ((go_at_call 31; (with_reducible refine (H n).out.mono ?_); rintro e w1 ⟨g, cap, rfl, k1⟩; have K1 := hid k1; clear k1))
  go_ret
  exact ⟨g, cap, rfl, K1.out⟩
/-- No cell there. -/
theorem at_none (p q F r c : Nat) (i j : Int) (z : List Nat) (w : World) (hm : Mat w p q F r c z) (h : i < 0 ∨ (r : Int) ≤ i ∨ j < 0 ∨ (c : Int) ≤ j) :
    Calls Try.prog 12 #[.pointer (some ⟨p, 0, none⟩), .int .i64 i, .int .i64 j] w fun e w' => e = .returned (.int .u8 0) ∧ w' = w := by
  have h1 := hm.rows
  have h2 := hm.cols
  clear hm
  rcases h with h | h
  · go_enter Try.func12, Try.ntmps12
    go_wp2
    go_ret
    exact ⟨rfl, rfl⟩
  by_cases i0 : i < 0
  · clear h
    go_enter Try.func12, Try.ntmps12
    go_wp2
    go_ret
    exact ⟨rfl, rfl⟩
  rcases h with h | h
  · go_enter Try.func12, Try.ntmps12
    go_wp2
    go_ret
    exact ⟨rfl, rfl⟩
  by_cases i1 : (r : Int) ≤ i
  · clear h
    go_enter Try.func12, Try.ntmps12
    go_wp2
    go_ret
    exact ⟨rfl, rfl⟩
  rcases h with h | h
  · go_enter Try.func12, Try.ntmps12
    go_wp2
    go_ret
    exact ⟨rfl, rfl⟩
  by_cases j0 : j < 0
  · clear h
    go_enter Try.func12, Try.ntmps12
    go_wp2
    go_ret
    exact ⟨rfl, rfl⟩
  · go_enter Try.func12, Try.ntmps12
    go_wp2
    go_ret
    exact ⟨rfl, rfl⟩
/-- The cell there. -/
theorem at_some (p q F r c i j : Nat) (z : List Nat) (w : World) (hm : Mat w p q F r c z) (hi : i < r) (hj : j < c) :
    Calls Try.prog 12 #[.pointer (some ⟨p, 0, none⟩), .int .i64 i, .int .i64 j] w fun e w' => e = .returned (.int .u8 (z.getD (i * c + j) 0 : Nat)) ∧ ∃ n, w' = w.drewN n := by
  have h1 := hm.rows
  have h2 := hm.cols
  have h3 := hm.blk.cell _ (hm.at hi hj)
  have H := hid (row_any p q F r c i z w hm hi)
  generalize z.getD (i * c + j) 0 = x at *
  clear hm
  go_enter Try.func12, Try.ntmps12
  go_wp2_with ((go_at_call 23; (with_reducible refine H.out.mono ?_); rintro e w1 ⟨rfl, m, rfl⟩))
  go_ret
  exact ⟨rfl, _, rfl⟩

/-- The lines, the first k of them made. -/
structure Bes (W : World) (gl n m k : Nat) (b : Nat → Nat) (L : Nat → List Nat) (w : World) : Prop where
  lin : ∀ i, i < k → w.cell? ⟨gl, i, none⟩ = some (.slice (some ⟨b i, 0, none⟩) m m)
  any : ∀ i, i < n → ∃ v, w.cell? ⟨gl, i, none⟩ = some v
  frz : ∀ i, w.frozen? ⟨gl, i, none⟩ = false
  gll : gl < w.heap.size
  glo : W.heap.size ≤ gl
  rows : ∀ i, i < k → Blk w (b i) (L i)
  lens : ∀ i, i < k → (L i).length = m
  own : ∀ i, i < k → W.heap.size ≤ b i ∧ b i ≠ gl
  inj : ∀ i j, i < k → j < k → b i = b j → i = j
  up : Up Nul W w
theorem Bes.alloc {W w : World} {gl n m k : Nat} {b : Nat → Nat} {L : Nat → List Nat} (h : Bes W gl n m k b L w) (o : Obj) : Bes W gl n m k b L (w.alloc o) :=
  have hc : ∀ i, (w.alloc o).cell? ⟨gl, i, none⟩ = w.cell? ⟨gl, i, none⟩ := fun i => World.cell?_alloc_past _ _ _ h.gll
  { h with lin := fun i hi => (hc i).trans (h.lin i hi), any := fun i hi => by rw [hc]; exact h.any i hi, frz := fun i => (World.frozen?_alloc_past _ _ _ h.gll).trans (h.frz i)
           gll := by simpa using Nat.lt_succ_of_lt h.gll, rows := fun i hi => (h.rows i hi).alloc o, up := h.up.alloc o }
theorem Bes.drewN {W w : World} {gl n m k : Nat} {b : Nat → Nat} {L : Nat → List Nat} (h : Bes W gl n m k b L w) (d : Nat) : Bes W gl n m k b L (w.drewN d) :=
  { h with lin := h.lin, any := h.any, frz := h.frz, gll := h.gll, rows := fun i hi => (h.rows i hi).drewN d, up := h.up.drewN d }
theorem Bes.elim {W w : World} {F gl n m : Nat} {b : Nat → Nat} {L : Nat → List Nat} (h : Bes W gl n m n b L w) : Elim W F gl n m b L w :=
  ⟨h.lin, h.frz, h.gll, h.glo, h.rows, h.lens, h.own, h.inj, h.up.nul⟩
/-- One line more: a new block. -/
theorem Bes.next {W w w2 : World} {gl n m k g : Nat} {b : Nat → Nat} {L : Nat → List Nat} {y : List Nat} (h : Bes W gl n m k b L w) (hk : k < n) (hg : g = w.heap.size)
    (c1 : w2.cell? ⟨gl, k, none⟩ = some (.slice (some ⟨g, 0, none⟩) m m)) (hb : Blk w2 g y) (hl : y.length = m) (hs : w.heap.size ≤ w2.heap.size)
    (os : w2.os = w.os) (tape : w2.tape = w.tape) (output : w2.output = w.output) (hu : ∀ j, j < w.heap.size → j ≠ gl → w2.heap[j]? = w.heap[j]?) (hc : ∀ i, i ≠ k → w2.cell? ⟨gl, i, none⟩ = w.cell? ⟨gl, i, none⟩) (hf : ∀ i, w2.frozen? ⟨gl, i, none⟩ = false) :
    Bes W gl n m (k + 1) (fun i => if i = k then g else b i) (fun i => if i = k then y else L i) w2 where
  lin := fun i hi => by
    by_cases e : i = k
    · subst e; rw [c1]; simp
    · rw [hc i e, h.lin i (by omega)]; simp [e]
  any := fun i hi => by
    by_cases e : i = k
    · subst e; exact ⟨_, c1⟩
    · rw [hc i e]; exact h.any i hi
  frz := hf
  gll := Nat.lt_of_lt_of_le h.gll hs
  glo := h.glo
  rows := fun i hi => by
    by_cases e : i = k
    · subst e; simpa using hb
    · have hr := h.rows i (by omega)
      have ho := h.own i (by omega)
      simp only [e, if_false]
      exact ⟨(hu _ hr.lt ho.2).trans hr.heap, hr.small⟩
  lens := fun i hi => by
    by_cases e : i = k
    · simp [e, hl]
    · simp only [e, if_false]; exact h.lens i (by omega)
  own := fun i hi => by
    by_cases e : i = k
    · have := h.up.size
      have := h.gll
      simp only [e, if_true]
      omega
    · simp only [e, if_false]; exact h.own i (by omega)
  inj := fun i j hi hj e => by
    have hlt : ∀ l, l < k → b l < w.heap.size := fun l hl => (h.rows l hl).lt
    by_cases e1 : i = k
    · by_cases e2 : j = k
      · omega
      · simp only [e1, e2, if_true, if_false] at e
        have := hlt j (by omega)
        omega
    · by_cases e2 : j = k
      · simp only [e1, e2, if_true, if_false] at e
        have := hlt i (by omega)
        omega
      · simp only [e1, e2, if_false] at e
        exact h.inj i j (by omega) (by omega) e
  up := ⟨os.trans h.up.os, tape.trans h.up.tape, output.trans h.up.output, Nat.le_trans h.up.size hs, fun j hj hn => by
    have := h.glo
    rw [hu j (Nat.lt_of_lt_of_le hj h.up.size) (by omega)]
    exact h.up.block j hj hn⟩
/-- n slices without bytes. -/
def nilS (n : Nat) : Array Value := madeCells (Value.slice none 0 0).cells (n * 1)
theorem nilS_at (n i : Nat) (h : i < n) : (nilS n)[i]? = some (.slice none 0 0) := by
  have h0 : i % 1 = 0 := Nat.mod_one i
  simp [nilS, madeCells, Value.cells, h, h0]
theorem Bes.start (w : World) (n m : Nat) (b : Nat → Nat) (L : Nat → List Nat) : Bes w w.heap.size n m 0 b L (w.alloc (.cells (nilS n) 52)) :=
  have no : ∀ {p : Prop} {i : Nat}, i < 0 → p := fun h => absurd h (Nat.not_lt_zero _)
  ⟨fun _ h => no h, fun i hi => ⟨_, (World.cell?_alloc_new w _ _ i).trans (nilS_at n i hi)⟩, fun i => World.frozen?_alloc_new w _ _ i, by simp, Nat.le_refl _, fun _ h => no h, fun _ h => no h, fun _ h => no h, fun _ _ h => no h, (Up.refl _ _).alloc _⟩
/-- A row of numbers told by Dots: where a walk that fills block g stands. -/
structure Wk (w : World) (p q F r c : Nat) (z : List Nat) (g : Nat) (y : List Nat) (b2 o2 : Nat) (z2 : List Nat) (wr : World) : Prop where
  mat : Mat wr p q F r c z
  blk : Blk wr g y
  row2 : Row wr b2 o2 z2
  lt2 : b2 < wr.heap.size
  up : Up (One F) w wr
  fld : Fld F wr
  gF : g ≠ F
  gp : g ≠ p
  gq : g ≠ q
  g2 : b2 ≠ g
  F2 : b2 ≠ F
  gw : w.heap.size ≤ g
theorem Wk.drewN {w wr : World} {p q F r c g b2 o2 : Nat} {z y z2 : List Nat} (h : Wk w p q F r c z g y b2 o2 z2 wr) (n : Nat) : Wk w p q F r c z g y b2 o2 z2 (wr.drewN n) :=
  { h with mat := h.mat.drewN n, blk := h.blk.drewN n, row2 := ⟨h.row2.cells, h.row2.small⟩, lt2 := h.lt2, up := h.up.drewN n, fld := h.fld.drewN n }
theorem Wk.drew {w wr : World} {p q F r c g b2 o2 : Nat} {z y z2 : List Nat} (h : Wk w p q F r c z g y b2 o2 z2 wr) : Wk w p q F r c z g y b2 o2 z2 wr.drew := h.drewN 1
theorem Wk.kept {w wr w' : World} {p q F r c g b2 o2 : Nat} {z y z2 : List Nat} (h : Wk w p q F r c z g y b2 o2 z2 wr) (k : Kept F wr w') : Wk w p q F r c z g y b2 o2 z2 w' :=
  { h with mat := h.mat.kept k, blk := h.blk.up (Up.of_out k.1) h.gF, row2 := h.row2.of_out k.1 h.F2, lt2 := by rw [k.1.size]; exact h.lt2, up := h.up.trans (Up.of_out k.1), fld := k.2 }
theorem Wk.set {w wr : World} {p q F r c g b2 o2 : Nat} {z y z2 : List Nat} (h : Wk w p q F r c z g y b2 o2 z2 wr) (i v : Nat) (hv : v < 256) : Wk w p q F r c z g (y.set i v) b2 o2 z2 (wr.setCell ⟨g, i, none⟩ (.int .u8 v)) :=
  { h with mat := h.mat.other (a := ⟨g, i, none⟩) (fun e => h.gp e.symm) (fun e => h.gq e.symm) _, blk := h.blk.set i v hv
           row2 := ⟨fun j hj => by rw [World.cell?_setCell_other _ _ _ _ (by intro e; have := congrArg Addr.block e; simp at this; have := h.g2; omega)]; exact h.row2.cells j hj, h.row2.small⟩
           lt2 := by simpa using h.lt2, up := h.up.setCell (p := ⟨g, i, none⟩) (.inl h.gw) _, fld := h.fld.up (S := One g) ((Up.refl _ _).setCell (p := ⟨g, i, none⟩) (.inr (show One g g from rfl)) _) fun e => h.gF e.symm }
/-- The cells of n rows of n. -/
def cz (n : Nat) (z : List Nat) : GfM.Mx := fun i j => z.getD (i * n + j) 0

/-- A row of ints. -/
def RowI (w : World) (b o n : Nat) (f : Nat → Int) : Prop := ∀ i, i < n → w.cell? ⟨b, o + i, none⟩ = some (.int .i64 (f i))
theorem RowI.up {S : Nat → Prop} {w w' : World} {b o n : Nat} {f : Nat → Int} (h : RowI w b o n f) (u : Up S w w') (hb : b < w.heap.size) (hs : ¬ S b) : RowI w' b o n f :=
  fun i hi => (u.cell (p := ⟨b, o + i, none⟩) hb hs).trans (h i hi)

/-- The cells of the unit, the first k rows of it told. -/
def unitK (n k t : Nat) : Nat := if t / n = t % n ∧ t / n < k then 1 else 0
def unitZ (n : Nat) : List Nat := tab (n * n) fun t => if t / n = t % n then 1 else 0
theorem unitK_zero {n : Nat} (t : Nat) : (zer (n * n)).getD t 0 = unitK n 0 t := by
  rw [zer_at, unitK, if_neg (by omega)]
theorem unitK_next {n k : Nat} {y : List Nat} (hk : k < n) (hl : y.length = n * n) (h : ∀ t, t < n * n → y.getD t 0 = unitK n k t) : ∀ t, t < n * n → (y.set (k * n + k) 1).getD t 0 = unitK n (k + 1) t := by
  have hlt : k * n + k < n * n := by
    have := Nat.mul_le_mul_right n (show k + 1 ≤ n from hk)
    rw [Nat.add_mul] at this
    omega
  intro t ht
  rw [getD_set _ _ _ _ (by rw [hl]; exact hlt)]
  by_cases e : t = k * n + k
  · rw [if_pos e, e]
    unfold unitK
    rw [Nat.mul_comm k n, Nat.mul_add_mod, Nat.mod_eq_of_lt hk, Nat.mul_add_div (by omega), Nat.div_eq_of_lt hk, Nat.add_zero, if_pos ⟨rfl, Nat.lt_succ_self k⟩]
  · rw [if_neg e, h t ht]
    unfold unitK
    by_cases h1 : t / n = t % n ∧ t / n < k
    · rw [if_pos h1, if_pos ⟨h1.1, Nat.lt_succ_of_lt h1.2⟩]
    · rw [if_neg h1, if_neg]
      intro h2
      rcases Nat.lt_or_ge (t / n) k with h3 | h3
      · exact h1 ⟨h2.1, h3⟩
      · have e1 : t / n = k := Nat.le_antisymm (Nat.le_of_lt_succ h2.2) h3
        have h0 := Nat.div_add_mod t n
        rw [← h2.1, e1, Nat.mul_comm] at h0
        exact e h0.symm
theorem unitK_done {n : Nat} {y : List Nat} (hl : y.length = n * n) (hn : 0 < n) (h : ∀ t, t < n * n → y.getD t 0 = unitK n n t) : y = unitZ n := by
  refine eq_tab hl fun t ht => ?_
  rw [h t ht, unitK]
  have : t / n < n := (Nat.div_lt_iff_lt_mul hn).2 ht
  by_cases e : t / n = t % n
  · rw [if_pos ⟨e, this⟩, if_pos e]
  · rw [if_neg (fun h => e h.1), if_neg e]
set_option maxHeartbeats 800000 in
theorem unit_good (F n : Nat) (w : World) (hF : F < w.heap.size) (n1 : 1 ≤ n) (n2 : n ≤ 32) :
    Calls Try.prog 19 #[.pointer (some ⟨F, 0, none⟩), .int .i64 n] w fun e w' => e = .returned (.tuple #[.pointer (some ⟨w.heap.size + 1, 0, none⟩), .int .i64 0]) ∧ Mat w' (w.heap.size + 1) w.heap.size F n n (unitZ n) ∧ Up Nul w w' := by
  have H := hid (blank_good F n n w hF n1 n2 n1 n2)
  obtain ⟨p3, P3⟩ : ∃ x, Hid (x = w.heap.size + 1) := ⟨_, rfl⟩
  obtain ⟨q3, Q3⟩ : ∃ x, Hid (x = w.heap.size) := ⟨_, rfl⟩
  rw [← P3.out, ← Q3.out]
  go_enter Try.func19, Try.ntmps19
  go_wp2_with fail
  refine H.out.mono ?_
  rintro e w1 ⟨rfl, k1⟩
  have hm := k1.mat
  rw [← P3.out, ← Q3.out] at hm
  rw [← P3.out]
  have HM := hid (And.intro hm k1.up)
  clear k1 hm H
  go_wp2
  go_loopw [20] (fun i wr => ∃ k : Nat, k ≤ n ∧ i = .int .i64 k ∧ ∃ y, Mat wr p3 q3 F n n y ∧ Up Nul w wr ∧ ∀ t, t < n * n → y.getD t 0 = unitK n k t) (fun i _ => n - (intOf i).toNat)
  case atStart => exact ⟨0, by omega, rfl, _, HM.out.1, HM.out.2, fun t _ => unitK_zero t⟩
  case round =>
    clear HM
    obtain ⟨k, hk, rfl, y, hy, hu, ht⟩ := hrel
    by_cases hlt : k < n
    · have HR := hid (row_any p3 q3 F n n k y wr hy hlt)
      have hc := hy.blk.cell _ (hy.at hlt hlt)
      have hf := hy.blk.froz (k * n + k)
      have HY := hid (And.intro hy (And.intro hu ht))
      generalize y.getD (k * n + k) 0 = u at hc
      clear hy hu ht
      go_wp2_with fail
      refine HR.out.mono ?_
      rintro e w2 ⟨rfl, m, rfl⟩
      go_wp2
      go_roundw
      case rel => exact ⟨k + 1, by omega, by go_num, _, (HY.out.1.drewN m).set (k * n + k) 1 (by omega), (HY.out.2.1.drewN m).setCell (p := ⟨q3, k * n + k, none⟩) (.inl (by have := Q3.out; show _ ≤ q3; omega)) _, unitK_next hlt HY.out.1.len HY.out.2.2⟩
      case measure => simp [intOf]; omega
    · obtain rfl : n = k := by omega
      have HY := hid (And.intro hy (And.intro hu ht))
      clear hy hu ht
      go_wp2
      go_ret2
      refine ⟨rfl, ?_, HY.out.2.1⟩
      rw [← unitK_done HY.out.1.len (by omega) HY.out.2.2]
      exact HY.out.1

theorem Newed.up {w w' : World} (h : Newed w w') : Up Nul w w' := Up.of_below h.below _
def Fs (FS : List Nat) (k : Nat) : Prop := k ∈ FS
/-- One step: nothing that was there turns but the Fields, and they are Fields still. -/
structure Nxt (FS : List Nat) (w w' : World) : Prop where
  up : Up (Fs FS) w w'
  fld : ∀ F, F ∈ FS → Fld F w'
/-- Where a law stands: its Fields are its own. -/
structure LS (w0 : World) (FS : List Nat) (w : World) : Prop where
  up : Up Nul w0 w
  fld : ∀ F, F ∈ FS → Fld F w
  own : ∀ F, F ∈ FS → w0.heap.size ≤ F
/-- A Matrix of the law's. -/
structure LM (FS : List Nat) (w : World) (p q F r c : Nat) (z : List Nat) : Prop where
  mat : Mat w p q F r c z
  F : F ∈ FS
  p : p ∉ FS
  q : q ∉ FS
/-- A row. -/
structure LR (FS : List Nat) (w : World) (b o : Nat) (z : List Nat) : Prop where
  row : Row w b o z
  lt : b < w.heap.size
  b : b ∉ FS
theorem Nxt.trans {FS : List Nat} {u v w : World} (h : Nxt FS u v) (k : Nxt FS v w) : Nxt FS u w := ⟨h.up.trans k.up, k.fld⟩
theorem LS.lt {w0 w : World} {FS : List Nat} (h : LS w0 FS w) {k : Nat} (hk : w.heap.size ≤ k) : k ∉ FS := fun hm => by have := (h.fld k hm).lt; omega
theorem LS.nxt {w0 w w' : World} {FS : List Nat} (h : LS w0 FS w) (n : Nxt FS w w') : LS w0 FS w' :=
  ⟨⟨n.up.os.trans h.up.os, n.up.tape.trans h.up.tape, n.up.output.trans h.up.output, Nat.le_trans h.up.size n.up.size, fun k hk hs => (n.up.block k (Nat.lt_of_lt_of_le hk h.up.size) fun hm => by have := h.own k hm; omega).trans (h.up.block k hk hs)⟩, n.fld, h.own⟩
theorem LM.nxt {FS : List Nat} {w w' : World} {p q F r c : Nat} {z : List Nat} (h : LM FS w p q F r c z) (n : Nxt FS w w') : LM FS w' p q F r c z := ⟨h.mat.up n.up h.p h.q, h.F, h.p, h.q⟩
theorem LR.nxt {FS : List Nat} {w w' : World} {b o : Nat} {z : List Nat} (h : LR FS w b o z) (n : Nxt FS w w') : LR FS w' b o z := ⟨h.row.up n.up h.lt h.b, Nat.lt_of_lt_of_le h.lt n.up.size, h.b⟩
theorem LS.nul {w0 w w' : World} {FS : List Nat} (h : LS w0 FS w) (u : Up Nul w w') : Nxt FS w w' := ⟨u.nul, fun F hF => (h.fld F hF).up (S := Nul) u id⟩
theorem LS.one {w0 w w' : World} {FS : List Nat} {F : Nat} (h : LS w0 FS w) (hF : F ∈ FS) (u : Up (One F) w w') (f : Fld F w') : Nxt FS w w' :=
  ⟨u.mono fun k _ e => by unfold One at e; subst e; exact hF, fun G hG => by
    by_cases e : G = F
    · subst e; exact f
    · exact (h.fld G hG).up u e⟩
theorem LS.refl {w0 w : World} {FS : List Nat} (h : LS w0 FS w) : Nxt FS w w := h.nul (Up.refl _ _)
theorem LS.alloc {w0 w : World} {FS : List Nat} (h : LS w0 FS w) (o : Obj) : Nxt FS w (w.alloc o) := h.nul ((Up.refl _ _).alloc o)
theorem LS.drewN {w0 w : World} {FS : List Nat} (h : LS w0 FS w) (n : Nat) : Nxt FS w (w.drewN n) := h.nul ((Up.refl _ _).drewN n)
theorem LS.drew {w0 w : World} {FS : List Nat} (h : LS w0 FS w) : Nxt FS w w.drew := h.nul ((Up.refl _ _).drew)
theorem LS.below {w0 w : World} {FS : List Nat} (h : LS w0 FS w) : Below w0.heap.size w0 w := h.up.below (Nat.le_refl _) fun _ _ h => h
theorem LS.start (w : World) : LS w [] w := ⟨Up.refl _ _, fun _ h => (List.not_mem_nil h).elim, fun _ h => (List.not_mem_nil h).elim⟩
/-- A new Field. -/
theorem LS.field {w0 w w' : World} {FS : List Nat} (h : LS w0 FS w) (n : Newed w w') : LS w0 (w.heap.size :: FS) w' :=
  ⟨h.up.trans n.up, fun F hF => by
    rcases List.mem_cons.1 hF with e | hF
    · subst e; exact n.fld
    · exact (h.fld F hF).up (S := Nul) n.up id, fun F hF => by
    rcases List.mem_cons.1 hF with e | hF
    · subst e; exact h.up.size
    · exact h.own F hF⟩
theorem LM.field {FS : List Nat} {w w' : World} {p q F r c : Nat} {z : List Nat} (h : LM FS w p q F r c z) (n : Newed w w') : LM (w.heap.size :: FS) w' p q F r c z :=
  ⟨h.mat.up n.up id id, List.mem_cons_of_mem _ h.F, fun hm => by
    rcases List.mem_cons.1 hm with e | hm
    · have := h.mat.pl; omega
    · exact h.p hm, fun hm => by
    rcases List.mem_cons.1 hm with e | hm
    · have := h.mat.ql; omega
    · exact h.q hm⟩
theorem LR.field {FS : List Nat} {w w' : World} {b o : Nat} {z : List Nat} (h : LR FS w b o z) (n : Newed w w') : LR (w.heap.size :: FS) w' b o z :=
  ⟨h.row.up n.up h.lt id, Nat.lt_of_lt_of_le h.lt n.up.size, fun hm => by
    rcases List.mem_cons.1 hm with e | hm
    · have := h.lt; omega
    · exact h.b hm⟩
theorem newL {w0 w : World} {FS : List Nat} {F r c n b o cap : Nat} {z : List Nat} (h : LS w0 FS w) (hF : F ∈ FS) (r1 : 1 ≤ r) (r2 : r ≤ 32) (c1 : 1 ≤ c) (c2 : c ≤ 32) (hz : LR FS w b o z) (hl : z.length = n) (hn : n = r * c) :
    Calls Try.prog 21 #[.pointer (some ⟨F, 0, none⟩), .int .i64 r, .int .i64 c, .slice (some ⟨b, o, none⟩) n cap] w
      fun e w' => ∃ p q, e = .returned (.tuple #[.pointer (some ⟨p, 0, none⟩), .int .i64 0]) ∧ LM FS w' p q F r c z ∧ Nxt FS w w' :=
  (new_good F r c n b o cap z w (h.fld F hF).lt r1 r2 c1 c2 hz.row hz.lt hl hn).mono fun e w' ⟨h1, h2⟩ => ⟨_, _, h1, ⟨h2.mat, hF, h.lt (by omega), h.lt (by omega)⟩, h.nul h2.up⟩
theorem unitL {w0 w : World} {FS : List Nat} {F n : Nat} (h : LS w0 FS w) (hF : F ∈ FS) (n1 : 1 ≤ n) (n2 : n ≤ 32) :
    Calls Try.prog 19 #[.pointer (some ⟨F, 0, none⟩), .int .i64 n] w fun e w' => ∃ p q, e = .returned (.tuple #[.pointer (some ⟨p, 0, none⟩), .int .i64 0]) ∧ LM FS w' p q F n n (unitZ n) ∧ Nxt FS w w' :=
  (unit_good F n w (h.fld F hF).lt n1 n2).mono fun e w' ⟨h1, h2, h3⟩ => ⟨_, _, h1, ⟨h2, hF, h.lt (by omega), h.lt (by omega)⟩, h.nul h3⟩
/-- A new Field F. -/
structure NewF (w w' : World) (F : Nat) : Prop where
  eq : F = w.heap.size
  n : Newed w w'
theorem LS.newF {w0 w w' : World} {FS : List Nat} {F : Nat} (h : LS w0 FS w) (n : NewF w w' F) : LS w0 (F :: FS) w' := by rw [n.eq]; exact h.field n.n
theorem LM.newF {FS : List Nat} {w w' : World} {p q F r c G : Nat} {z : List Nat} (h : LM FS w p q F r c z) (n : NewF w w' G) : LM (G :: FS) w' p q F r c z := by rw [n.eq]; exact h.field n.n
theorem LR.newF {FS : List Nat} {w w' : World} {b o G : Nat} {z : List Nat} (h : LR FS w b o z) (n : NewF w w' G) : LR (G :: FS) w' b o z := by rw [n.eq]; exact h.field n.n
theorem gfNewF (w : World) : Calls Try.prog 4 #[] w fun e w' => ∃ F, e = .returned (.pointer (some ⟨F, 0, none⟩)) ∧ NewF w w' F :=
  (new_any w).mono fun e w' ⟨h1, h2⟩ => ⟨_, h1, rfl, h2⟩
theorem cz_small {n : Nat} {z : List Nat} (h : ∀ x ∈ z, x < 256) : GfM.Small (cz n z) := fun i j => small_getD h _
theorem tab_small {n : Nat} {f : Nat → Nat} (h : ∀ i, f i < 256) : ∀ x ∈ tab n f, x < 256 := by
  intro x hx
  obtain ⟨i, _, rfl⟩ := List.mem_map.1 hx
  exact h i
theorem cz_tab {n : Nat} {f : Nat → Nat → Nat} {i j : Nat} (hi : i < n) (hj : j < n) : cz n (tab (n * n) fun t => f (t / n) (t % n)) i j = f i j := by
  unfold cz
  have hlt : i * n + j < n * n := by
    have := Nat.mul_le_mul_right n (show i + 1 ≤ n from hi)
    rw [Nat.add_mul] at this
    omega
  rw [tab_at _ _ _ hlt, Nat.mul_comm i n, Nat.mul_add_mod, Nat.mod_eq_of_lt hj, Nat.mul_add_div (by omega), Nat.div_eq_of_lt hj, Nat.add_zero]
theorem tab_two {n : Nat} {f g : Nat → Nat → Nat} (h : ∀ i j, i < n → j < n → f i j = g i j) : (tab (n * n) fun t => f (t / n) (t % n)) = tab (n * n) fun t => g (t / n) (t % n) :=
  tab_congr fun t ht => by
    have hn : 0 < n := by
      rcases Nat.eq_zero_or_pos n with e | e
      · subst e; omega
      · exact e
    exact h _ _ ((Nat.div_lt_iff_lt_mul hn).2 ht) (Nat.mod_lt _ hn)
theorem z_cz {n : Nat} {z : List Nat} (hl : z.length = n * n) : z = tab (n * n) fun t => cz n z (t / n) (t % n) :=
  eq_tab hl fun t ht => by
    unfold cz
    rw [Nat.mul_comm, Nat.div_add_mod]
/-- The inverse's cells. -/
def invZ (n : Nat) (M : GfM.Mx) : List Nat := tab (n * n) fun t => GfM.half n M (t / n) (t % n)
/-- Inverted twice. -/
theorem inv_inv {n : Nat} {z : List Nat} {M : GfM.Mx} (hl : z.length = n * n) (hs : ∀ x ∈ z, x < 256) (h : GfM.run n (GfM.beside n (cz n z)) n = some M) :
    ∃ M2, GfM.run n (GfM.beside n (cz n (invZ n M))) n = some M2 ∧ invZ n M2 = z := by
  obtain ⟨a1, a2, a3⟩ := GfM.run_inverse (cz_small hs) h
  have b1 : GfM.Small (cz n (invZ n M)) := cz_small (tab_small fun t => a1 _ _)
  have e1 : ∀ i j, i < n → j < n → GfM.mm n (cz n z) (cz n (invZ n M)) i j = GfM.idm i j := fun i j hi hj => by
    exact (GfM.mm_congr (A' := cz n z) (B' := GfM.half n M) (fun _ _ => rfl) fun s hs => cz_tab hs hj).trans (a2 i j hi hj)
  cases hr : GfM.run n (GfM.beside n (cz n (invZ n M))) n with
  | none => exact absurd hr (GfM.run_ne_none b1 e1)
  | some M2 =>
    obtain ⟨c1, c2, c3⟩ := GfM.run_inverse b1 hr
    refine ⟨M2, rfl, ?_⟩
    conv => rhs; rw [z_cz hl]
    exact tab_two fun i j hi hj => (GfM.inverse_one (cz_small hs) c1 e1 c2 hi hj).symm
namespace GfM

instance : Std.Associative mul := ⟨mul_assoc⟩
instance : Std.Commutative mul := ⟨mul_comm⟩
end GfM

/-- n slices of bytes, one behind the other: of each its length is known. -/
def RowL (w : World) (g o n : Nat) (l : Nat → Nat) : Prop := ∀ i, i < n → ∃ a cap, w.cell? ⟨g, o + i, none⟩ = some (.slice a (l i) cap)
theorem RowL.up {S : Nat → Prop} {w w' : World} {g o n : Nat} {l : Nat → Nat} (h : RowL w g o n l) (u : Up S w w') (hb : g < w.heap.size) (hs : ¬ S g) : RowL w' g o n l := fun i hi => by
  obtain ⟨a, cap, e⟩ := h i hi
  exact ⟨a, cap, (u.cell (p := ⟨g, o + i, none⟩) hb hs).trans e⟩
/-- A shard in a cell: nothing, or a row. -/
def Shd (FS : List Nat) (w : World) (v : Value) : Option (List Nat) → Prop
  | none => v = .slice none 0 0
  | some z => ∃ b o cap, v = .slice (some ⟨b, o, none⟩) z.length cap ∧ LR FS w b o z
/-- n shards, one behind the other. -/
structure LL (FS : List Nat) (w : World) (g o n : Nat) (S : Nat → Option (List Nat)) : Prop where
  cells : ∀ i, i < n → ∃ v, w.cell? ⟨g, o + i, none⟩ = some v ∧ Shd FS w v (S i)
  lt : g < w.heap.size
  b : g ∉ FS
theorem Shd.nxt {FS : List Nat} {w w' : World} {v : Value} {x : Option (List Nat)} (h : Shd FS w v x) (n : Nxt FS w w') : Shd FS w' v x := by
  cases x with
  | none => exact h
  | some z =>
    obtain ⟨b, o, cap, e, r⟩ := h
    exact ⟨b, o, cap, e, r.nxt n⟩
theorem Shd.newF {FS : List Nat} {w w' : World} {G : Nat} {v : Value} {x : Option (List Nat)} (h : Shd FS w v x) (n : NewF w w' G) : Shd (G :: FS) w' v x := by
  cases x with
  | none => exact h
  | some z =>
    obtain ⟨b, o, cap, e, r⟩ := h
    exact ⟨b, o, cap, e, r.newF n⟩
theorem LL.nxt {FS : List Nat} {w w' : World} {g o n : Nat} {S : Nat → Option (List Nat)} (h : LL FS w g o n S) (m : Nxt FS w w') : LL FS w' g o n S :=
  ⟨fun i hi => by
    obtain ⟨v, hv, hs⟩ := h.cells i hi
    exact ⟨v, (m.up.cell (p := ⟨g, o + i, none⟩) h.lt h.b).trans hv, hs.nxt m⟩, Nat.lt_of_lt_of_le h.lt m.up.size, h.b⟩
theorem LL.newF {FS : List Nat} {w w' : World} {g o n G : Nat} {S : Nat → Option (List Nat)} (h : LL FS w g o n S) (m : NewF w w' G) : LL (G :: FS) w' g o n S :=
  ⟨fun i hi => by
    obtain ⟨v, hv, hs⟩ := h.cells i hi
    exact ⟨v, (m.n.up.cell (p := ⟨g, o + i, none⟩) h.lt id).trans hv, hs.newF m⟩, Nat.lt_of_lt_of_le h.lt m.n.up.size, fun hm => by
    rcases List.mem_cons.1 hm with e | hm
    · have := h.lt
      have := m.eq
      omega
    · exact h.b hm⟩
theorem LL.at {FS : List Nat} {w : World} {g o n i : Nat} {S : Nat → Option (List Nat)} {z : List Nat} (h : LL FS w g o n S) (hi : i < n) (e : S i = some z) :
    ∃ b so cap, w.cell? ⟨g, o + i, none⟩ = some (.slice (some ⟨b, so, none⟩) z.length cap) ∧ LR FS w b so z := by
  obtain ⟨v, hv, hs⟩ := h.cells i hi
  rw [e] at hs
  obtain ⟨b, so, cap, rfl, r⟩ := hs
  exact ⟨b, so, cap, hv, r⟩
theorem LL.not {FS : List Nat} {w : World} {g o n i : Nat} {S : Nat → Option (List Nat)} (h : LL FS w g o n S) (hi : i < n) (e : S i = none) : w.cell? ⟨g, o + i, none⟩ = some (.slice none 0 0) := by
  obtain ⟨v, hv, hs⟩ := h.cells i hi
  rw [e] at hs
  rw [hv, show v = _ from hs]
theorem LL.lens {FS : List Nat} {w : World} {g o n : Nat} {S : Nat → Option (List Nat)} (h : LL FS w g o n S) : RowL w g o n fun i => ((S i).getD []).length := fun i hi => by
  cases e : S i with
  | none => exact ⟨none, 0, by simp only [e]; exact h.not hi e⟩
  | some z =>
    obtain ⟨b, so, cap, hv, _⟩ := h.at hi e
    exact ⟨_, cap, by simp only [e]; exact hv⟩
theorem Elim.step {S : Nat → Prop} {W w w' : World} {F gl n m : Nat} {b : Nat → Nat} {L : Nat → List Nat} (h : Elim W F gl n m b L w) (u : Up S w w') (h1 : ¬ S gl) (h2 : ∀ i, i < n → ¬ S (b i)) (h3 : ∀ k, k < W.heap.size → S k → k = F) : Elim W F gl n m b L w' :=
  { h with
    lin := fun i hi => (u.cell (p := ⟨gl, i, none⟩) h.gll h1).trans (h.lin i hi), frz := fun i => (u.froz (p := ⟨gl, i, none⟩) h.gll h1).trans (h.frz i)
    gll := Nat.lt_of_lt_of_le h.gll u.size, rows := fun i hi => (h.rows i hi).up u (h2 i hi)
    up := ⟨u.os.trans h.up.os, u.tape.trans h.up.tape, u.output.trans h.up.output, Nat.le_trans h.up.size u.size, fun k hk hs => (u.block k (Nat.lt_of_lt_of_le hk h.up.size) fun e => hs (h3 k hk e)).trans (h.up.block k hk hs)⟩ }
theorem Elim.nul {W w w' : World} {F gl n m : Nat} {b : Nat → Nat} {L : Nat → List Nat} (h : Elim W F gl n m b L w) (u : Up Nul w w') : Elim W F gl n m b L w' := h.step u id (fun _ _ => id) fun _ _ => False.elim
theorem Elim.base {W w : World} {F gl n m d : Nat} {b : Nat → Nat} {L : Nat → List Nat} (h : Elim (W.drewN d) F gl n m b L w) : Elim W F gl n m b L w :=
  { h with glo := h.glo, own := h.own, up := ((Up.refl _ W).drewN d).trans h.up }
/-- The lines that are filled, and the column. -/
structure Acs (w : World) (F gl r L col k : Nat) (b : Nat → Nat) (P : Nat → List Nat) (y : List Nat) (wr : World) : Prop where
  el : Elim w F gl r L b P wr
  cb : Blk wr col y
  cl : y.length = k
  cw : w.heap.size ≤ col
  cg : col ≠ gl
  cr : ∀ i, i < r → col ≠ b i
  fld : Fld F wr
theorem Acs.put {w wr : World} {F gl r L col k : Nat} {b : Nat → Nat} {P : Nat → List Nat} {y : List Nat} (h : Acs w F gl r L col k b P y wr) (hF : F < w.heap.size) (i v : Nat) (hv : v < 256) :
    Acs w F gl r L col k b P (y.set i v) (wr.setCell ⟨col, i, none⟩ (.int .u8 v)) := by
  have u : Up (One col) wr (wr.setCell ⟨col, i, none⟩ (.int .u8 v)) := (Up.refl _ _).setCell (p := ⟨col, i, none⟩) (.inr (show One col col from rfl)) _
  have hc := h.cw
  exact ⟨h.el.step u (fun e => h.cg e.symm) (fun i hi e => h.cr i hi e.symm) (fun k hk e => by unfold One at e; omega), h.cb.set i v hv, by rw [List.length_set]; exact h.cl, h.cw, h.cg, h.cr, h.fld.up u (by unfold One; omega)⟩
theorem Acs.turn {w wr : World} {F gl r L col k : Nat} {b : Nat → Nat} {P : Nat → List Nat} {y : List Nat} (h : Acs w F gl r L col k b P y wr) (hF : F < w.heap.size) {j : Nat} (hj : j < r) (t v : Nat) (hv : v < 256) :
    Acs w F gl r L col k b (updL P j ((P j).set t v)) y (wr.setCell ⟨b j, t, none⟩ (.int .u8 v)) := by
  have u : Up (One (b j)) wr (wr.setCell ⟨b j, t, none⟩ (.int .u8 v)) := (Up.refl _ _).setCell (p := ⟨b j, t, none⟩) (.inr (show One (b j) (b j) from rfl)) _
  have hb := (h.el.own j hj).1
  exact ⟨h.el.turn hj ((h.el.rows j hj).set t v hv) (by rw [List.length_set]; exact h.el.lens j hj) u, h.cb.up u (fun e => h.cr j hj e), h.cl, h.cw, h.cg, h.cr, h.fld.up u (by unfold One; omega)⟩
/-- Places t of the first j lines are told, and all ahead of t. -/
def Tld (r L t j : Nat) (V : Nat → Nat → Nat) (P : Nat → List Nat) : Prop := ∀ i, i < r → ∀ u, u < L → (u < t ∨ (u = t ∧ i < j)) → (P i).getD u 0 = V i u
theorem Tld.next {r L t j v : Nat} {V : Nat → Nat → Nat} {P : Nat → List Nat} (h : Tld r L t j V P) (hl : ∀ i, i < r → (P i).length = L) (hj : j < r) (ht : t < L) (hv : V j t = v) : Tld r L t (j + 1) V (updL P j ((P j).set t v)) := by
  intro i hi u hu hc
  unfold updL
  by_cases e : i = j
  · subst e
    rw [if_pos rfl, getD_set _ _ _ _ (by rw [hl i hi]; exact ht)]
    by_cases e2 : u = t
    · rw [if_pos e2, e2, hv]
    · rw [if_neg e2]
      exact h i hi u hu (by omega)
  · rw [if_neg e]
    exact h i hi u hu (by omega)
/-- The slice v, of the call's own, holds the values xs, a cell each. -/
def OwnV (T : TypeId) (base : Nat) (w : World) (v : Value) (xs : List Value) : Prop := w.ownsRow base T 1 v xs.length xs
theorem OwnV.nil (T : TypeId) (base : Nat) (w : World) : OwnV T base w (.slice none 0 0) [] := World.ownsRow_nil _ _ _ _
theorem OwnV.alloc {T : TypeId} {base : Nat} {w : World} {v : Value} {xs : List Value} (h : OwnV T base w v xs) (o : Obj) : OwnV T base (w.alloc o) v xs := World.ownsRow.alloc h o
theorem OwnV.drewN {T : TypeId} {base : Nat} {w : World} {v : Value} {xs : List Value} (h : OwnV T base w v xs) (n : Nat) : OwnV T base (w.drewN n) v xs := h
theorem OwnV.up {T : TypeId} {S : Nat → Prop} {base : Nat} {w w' : World} {v : Value} {xs : List Value} (h : OwnV T base w v xs) (u : Up S w w') (hs : ∀ k, base ≤ k → k < w.heap.size → ¬ S k) : OwnV T base w' v xs := by
  refine ⟨h.1, ?_⟩
  rcases h.2 with hn | ⟨g, cap, cur, h1, h2, h3, h4⟩
  · exact .inl hn
  · have hl := (Array.getElem?_eq_some_iff.1 h3).1
    exact .inr ⟨g, cap, cur, h1, h2, (u.block g hl (hs g h2 hl)).trans h3, h4⟩
theorem OwnV.base {T : TypeId} {base : Nat} {w : World} {v : Value} {xs : List Value} (h : OwnV T base w v xs) : ∀ k, v.ownBlock = some k → base ≤ k := fun k hk => (World.ownsRow.lt h k hk).1
theorem OwnV.row {T : TypeId} {base : Nat} {w : World} {v : Value} {xs : List Value} (h : OwnV T base w v xs) (h0 : 0 < xs.length) :
    ∃ g cap, v = .slice (some ⟨g, 0, none⟩) xs.length cap ∧ base ≤ g ∧ g < w.heap.size ∧ (∀ i x, xs[i]? = some x → w.cell? ⟨g, i, none⟩ = some x) ∧ (∀ i, w.frozen? ⟨g, i, none⟩ = false) ∧ xs.length ≤ cap := by
  rcases h.2 with ⟨_, hn⟩ | ⟨g, cap, cur, h1, h2, h3, h4, h5, h6, h7⟩
  · omega
  · refine ⟨g, cap, h1, h2, (Array.getElem?_eq_some_iff.1 h3).1, fun i x hi => ?_, fun i => by simp [World.frozen?, h3], h4⟩
    have hl : i < xs.length := by
      rcases Nat.lt_or_ge i xs.length with h | h
      · exact h
      · rw [List.getElem?_eq_none h] at hi; cases hi
    have hc : cur[i]? = some x := by
      have e : (cur.toList.take (xs.length * 1))[i]? = some x := by rw [h7]; exact hi
      rw [List.getElem?_take, if_pos (by omega)] at e
      simpa using e
    simp only [World.cell?, h3]
    exact hc

/-- A Code of k data and r parities. -/
structure CD (FS : List Nat) (w : World) (c F k r pp pq sp sq : Nat) (Z : List Nat) : Prop where
  k0 : w.cell? ⟨c, 0, none⟩ = some (.int .i64 k)
  r0 : w.cell? ⟨c, 1, none⟩ = some (.int .i64 r)
  p0 : w.cell? ⟨c, 2, none⟩ = some (.pointer (some ⟨pp, 0, none⟩))
  s0 : w.cell? ⟨c, 3, none⟩ = some (.pointer (some ⟨sp, 0, none⟩))
  lt : c < w.heap.size
  b : c ∉ FS
  par : LM FS w pp pq F r k Z
  shd : LM FS w sp sq F (k + r) k (unitZ k ++ Z)
  k14 : k ≤ 14
  r4 : r ≤ 4
theorem CD.nxt {FS : List Nat} {w w' : World} {c F k r pp pq sp sq : Nat} {Z : List Nat} (h : CD FS w c F k r pp pq sp sq Z) (n : Nxt FS w w') : CD FS w' c F k r pp pq sp sq Z :=
  have e : ∀ j, w'.cell? ⟨c, j, none⟩ = w.cell? ⟨c, j, none⟩ := fun j => n.up.cell (p := ⟨c, j, none⟩) h.lt h.b
  ⟨(e 0).trans h.k0, (e 1).trans h.r0, (e 2).trans h.p0, (e 3).trans h.s0, Nat.lt_of_lt_of_le h.lt n.up.size, h.b, h.par.nxt n, h.shd.nxt n, h.k14, h.r4⟩
theorem CD.newF {FS : List Nat} {w w' : World} {c F k r pp pq sp sq G : Nat} {Z : List Nat} (h : CD FS w c F k r pp pq sp sq Z) (n : NewF w w' G) : CD (G :: FS) w' c F k r pp pq sp sq Z :=
  have e : ∀ j, w'.cell? ⟨c, j, none⟩ = w.cell? ⟨c, j, none⟩ := fun j => n.n.up.cell (p := ⟨c, j, none⟩) h.lt id
  ⟨(e 0).trans h.k0, (e 1).trans h.r0, (e 2).trans h.p0, (e 3).trans h.s0, Nat.lt_of_lt_of_le h.lt n.n.up.size, fun hm => by
    rcases List.mem_cons.1 hm with e | hm
    · have := h.lt
      have := n.eq
      omega
    · exact h.b hm, h.par.newF n, h.shd.newF n, h.k14, h.r4⟩
theorem Shd.slice {FS : List Nat} {w : World} {v : Value} {x : Option (List Nat)} (h : Shd FS w v x) : ∃ a n cap, v = .slice a n cap := by
  cases x with
  | none => exact ⟨_, _, _, h⟩
  | some z =>
    obtain ⟨b, o, cap, e, _⟩ := h
    exact ⟨_, _, _, e⟩
/-- Shards that are being chosen, the first k of them told. -/
structure Chs (FS : List Nat) (w : World) (h m k : Nat) (T : Nat → Option (List Nat)) (wr : World) : Prop where
  told : ∀ i, i < k → ∃ v, wr.cell? ⟨h, i, none⟩ = some v ∧ Shd FS w v (T i)
  any : ∀ i, i < m → ∃ v, wr.cell? ⟨h, i, none⟩ = some v
  frz : ∀ i, wr.frozen? ⟨h, i, none⟩ = false
  lt : h < wr.heap.size
  hw : w.heap.size ≤ h
  up : Up Nul w wr
theorem Chs.start (FS : List Nat) (w : World) (m : Nat) (T : Nat → Option (List Nat)) : Chs FS w w.heap.size m 0 T (w.alloc (.cells (nilS m) 52)) :=
  ⟨fun _ h => absurd h (Nat.not_lt_zero _), fun i hi => ⟨_, (World.cell?_alloc_new w _ _ i).trans (nilS_at m i hi)⟩, fun i => World.frozen?_alloc_new w _ _ i, by simp, Nat.le_refl _, (Up.refl _ _).alloc _⟩
theorem Chs.next {FS : List Nat} {w wr : World} {h m k : Nat} {T : Nat → Option (List Nat)} (c : Chs FS w h m k T wr) (hk : k < m) {v : Value} (hv : Shd FS w v (T k)) : Chs FS w h m (k + 1) T (wr.setCell ⟨h, k, none⟩ v) := by
  obtain ⟨v0, c0⟩ := c.any k hk
  have hc : ∀ i, i ≠ k → (wr.setCell ⟨h, k, none⟩ v).cell? ⟨h, i, none⟩ = wr.cell? ⟨h, i, none⟩ := fun i hi => World.cell?_setCell_other _ _ _ _ (by intro e; have := congrArg Addr.off e; simp at this; omega)
  refine ⟨fun i hi => ?_, fun i hi => ?_, fun i => by rw [World.frozen?_setCell]; exact c.frz i, by simpa using c.lt, c.hw, c.up.setCell (p := ⟨h, k, none⟩) (.inl c.hw) _⟩
  · by_cases e : i = k
    · subst e
      exact ⟨v, World.cell?_setCell_same _ _ _ c0, hv⟩
    · rw [hc i e]
      exact c.told i (by omega)
  · by_cases e : i = k
    · subst e
      exact ⟨v, World.cell?_setCell_same _ _ _ c0⟩
    · rw [hc i e]
      exact c.any i hi
/-- A row of places, perhaps without any. -/
def Plc (w : World) (a : Option Addr) (m : Nat) (f : Nat → Nat) : Prop := m = 0 ∨ ∃ gp op, a = some ⟨gp, op, none⟩ ∧ gp < w.heap.size ∧ RowI w gp op m fun i => (f i : Int)
theorem Plc.up {w w' : World} {a : Option Addr} {m : Nat} {f : Nat → Nat} (h : Plc w a m f) (u : Up Nul w w') : Plc w' a m f := by
  rcases h with h | ⟨gp, op, e, hl, hr⟩
  · exact .inl h
  · exact .inr ⟨gp, op, e, Nat.lt_of_lt_of_le hl u.size, hr.up u hl id⟩
/-- Places as values. -/
def ints (T : List Nat) : List Value := T.map fun (t : Nat) => Value.int .i64 (t : Int)
set_option maxHeartbeats 800000 in
theorem grow_b (n : Nat) (w : World) (n1 : 1 ≤ n) (n2 : n ≤ 2000) :
    Calls Try.prog 24 #[.slice none 0 0, .int .i64 n] w fun e w' => ∃ h cap, e = .returned (.slice (some ⟨h, 0, none⟩) 0 cap) ∧ w'.ownsRow w.heap.size 5 1 (.slice (some ⟨h, 0, none⟩) 0 cap) 0 [] ∧ Up Nul w w' := by
  obtain ⟨i0, hi, hz0, hz2, hz3⟩ := info_parts info_u8
  have hr : ∀ ty, (Builtin.append_ #[52, 3] ty #[.slice none 0 0, .int .i64 n]).run Try.prog w = _ := fun ty =>
    Lib.run_append_nil_zeros (P := Try.prog) w 52 3 ty 5 i0 (.int .u8 0) .i64 .i64 Try.underlying52 Try.underlying3 hi hz0 n (by omega) (by rw [hz2]; omega) (by omega) (by rw [hz3]; omega)
  have hge := grownCap_ge w n 0 5
  have hmx := grownCap_le_maxLen w n 0 5 (by unfold maxLen; omega)
  obtain ⟨gc, GC⟩ : ∃ x, Hid (grownCap w n 0 5 = x) := ⟨_, rfl⟩
  rw [GC.out] at hge hmx
  have HO : Hid ((w.drew.alloc (.cells (Builtin.zeroCells ((.int .u8 0) : Value).cells n ++ Builtin.zeroCells ((.int .u8 0) : Value).cells (gc - n)) 5)).ownsRow w.heap.size 5 1 (.slice (some ⟨w.heap.size, 0, none⟩) 0 gc) 0 []) :=
    World.ownsRow_made w.drew _ gc (Nat.le_refl _) hmx (by
      rw [Array.size_append, size_zeroCells, size_zeroCells]
      show n * 1 + (gc - n) * 1 = gc * 1
      omega)
  have HU : Hid (Up Nul w (w.drew.alloc (.cells (Builtin.zeroCells ((.int .u8 0) : Value).cells n ++ Builtin.zeroCells ((.int .u8 0) : Value).cells (gc - n)) 5))) := ((Up.refl Nul w).drew).alloc _
  rw [GC.out] at hr
  have HR := hid hr
  generalize (w.drew.alloc (.cells (Builtin.zeroCells ((.int .u8 0) : Value).cells n ++ Builtin.zeroCells ((.int .u8 0) : Value).cells (gc - n)) 5)) = wa at *
  have c1 : ¬ ((n : Int) < 0) := by omega
  have c2 : (0 : Int) < (n : Int) := by omega
  have c3 : IntKind.i64.wrap (n : Int) = n := IntWalk.i64_in _ (by omega)
  have c4 : wrap64 (n : Int) = n := by rw [← IntWalk.i64_left]; exact c3
  clear hi hz0 hz2 hz3 hr hmx GC
  go_enter Try.func24, Try.ntmps24
  go_wp2_with (first
    | (at_builtin; refine Lib.wpList_append_run _ rfl (.tmp 20) (.tmp 21) _ _ rfl _ _ rfl rfl _ _ (HR.out _) ?_)
    | go_in)
  go_ret
  exact ⟨_, gc, rfl, HO.out, HU.out⟩
set_option maxHeartbeats 800000 in
/-- Two rows, one behind the other. -/
theorem cat_b (gs b1 b2 o1 o2 n1 n2 c1 c2 : Nat) (z1 z2 : List Nat) (w : World) (h0 : w.cell? ⟨gs, 0, none⟩ = some (.slice (some ⟨b1, o1, none⟩) n1 c1)) (h1 : w.cell? ⟨gs, 1, none⟩ = some (.slice (some ⟨b2, o2, none⟩) n2 c2))
    (r1 : Row w b1 o1 z1) (r2 : Row w b2 o2 z2) (l1 : z1.length = n1) (l2 : z2.length = n2) (k1 : b1 < w.heap.size) (k2 : b2 < w.heap.size) (n11 : 1 ≤ n1) (n12 : n1 ≤ 1024) (n22 : n2 ≤ 512) :
    Calls Try.prog 15 #[.slice (some ⟨gs, 0, none⟩) 2 2] w fun e w' => ∃ v, e = .returned v ∧ OwnB w.heap.size w' v (z1 ++ z2) ∧ Up Nul w w' := by
  have G0 := hid (lt_of_cell h0)
  have HX := hid (And.intro (And.intro (And.intro r1 r2) (And.intro l1 l2)) (And.intro k1 k2))
  have HG := hid (grow_b (n1 + n2) w (by omega) (by omega))
  have e1 : (n1 : Int) + (n2 : Int) = ((n1 + n2 : Nat) : Int) := by simp
  obtain ⟨nn, NN⟩ : ∃ x, Hid (n1 + n2 = x) := ⟨_, rfl⟩
  have hnn : nn ≤ 1536 := by rw [← NN.out]; omega
  rw [NN.out] at e1 HG
  have i1 : ¬ ((n1 : Int) < 0) := by omega
  have i2 : ¬ ((nn : Int) < 0) := by omega
  have HC := hid (And.intro h0 h1)
  clear r1 r2 l1 l2 k1 k2
  go_enter Try.func15, Try.ntmps15
  go_wp2_with fail
  refine wp_loop_rounds 3 ?_
  rw [rounds_succ]
  go_wp2_with fail
  rw [rounds_succ]
  go_wp2_with fail
  rw [rounds_succ]
  go_wp2_with fail
  refine HG.out.mono ?_
  rintro e wg ⟨h, cap, rfl, hown, hu⟩
  have x0 := (hu.cell (p := ⟨gs, 0, none⟩) G0.out id).trans HC.out.1
  have x1 := (hu.cell (p := ⟨gs, 1, none⟩) G0.out id).trans HC.out.2
  have HO := hid (And.intro hown hu)
  clear hown hu HG h0 h1
  go_wp2_with fail
  refine wp_loop_rounds 3 ?_
  rw [rounds_succ]
  go_wp2_with (first
    | (at_builtin; refine wpList_append_bytes rfl (.tmp 31) (.tmp 32) rfl w.heap.size (.slice (some ⟨h, 0, none⟩) 0 cap) [] rfl ⟨HO.out.1, fun _ hx => by cases hx⟩ b1 o1 n1 c1 z1 rfl (HX.out.1.1.1.up HO.out.2 HX.out.2.1 id) HX.out.1.2.1 (by simp; omega) HO.out.2.size ?_; intro v1 w1 H1 H2)
    | go_in)
  have u1 := hid (HO.out.2.grown H2.out fun q hq => (World.ownsRow.lt HO.out.1 q hq).1)
  have y1 := (u1.out.cell (p := ⟨gs, 1, none⟩) G0.out id).trans HC.out.2
  rw [rounds_succ]
  go_wp2_with (first
    | (at_builtin; refine wpList_append_bytes rfl (.tmp 31) (.tmp 32) rfl w.heap.size v1 ([] ++ z1) rfl H1.out b2 o2 n2 c2 z2 rfl (HX.out.1.1.2.up u1.out HX.out.2.2 id) HX.out.1.2.2 (by simp [HX.out.1.2.1]; omega) u1.out.size ?_; intro v2 w2 H3 H4)
    | go_in)
  have u2 := hid (u1.out.grown H4.out fun q hq => H1.out.base q hq)
  rw [rounds_succ]
  go_wp2
  go_ret
  exact ⟨_, rfl, H3.out, u2.out⟩

/-- No two are the same. -/
def Dst (z : List Nat) : Prop := ∀ i j, i < z.length → j < z.length → z.getD i 0 = z.getD j 0 → i = j
theorem count_nodup : ∀ {l : List Nat}, l.Nodup → ∀ x, l.count x ≤ 1
  | [], _, x => by simp
  | a :: l, h, x => by
    obtain ⟨h1, h2⟩ := List.nodup_cons.1 h
    by_cases e : x = a
    · subst e
      rw [List.count_cons_self, List.count_eq_zero.2 h1]
      exact Nat.le_refl _
    · rw [List.count_cons_of_ne (fun h => e h.symm)]
      exact count_nodup h2 x
theorem Dst.nodup {z : List Nat} (h : Dst z) : z.Nodup := by
  unfold List.Nodup
  rw [List.pairwise_iff_getElem]
  intro i j hi hj hij e
  have := h i j hi hj (by simp only [List.getD_eq_getElem?_getD, List.getElem?_eq_getElem hi, List.getElem?_eq_getElem hj, Option.getD_some]; exact e)
  omega
theorem Dst.count {z : List Nat} (h : Dst z) (x : Nat) : ¬ 1 < z.count x := by
  have := count_nodup h.nodup x
  omega
theorem count_bytes {z : List Nat} {x : Nat} (hz : ∀ y ∈ z, y < 256) (hx : x < 256) : Lib.countByte (Lib.bytesOf (z.map fun (n : Nat) => (n : Int))) (x : Int).toNat.toUInt8 = z.count x := by
  unfold Lib.countByte Lib.bytesOf
  induction z with
  | nil => simp
  | cons a z ih =>
    have ha := hz a (List.mem_cons_self ..)
    have hi := ih fun y hy => hz y (List.mem_cons_of_mem _ hy)
    simp only [List.map_cons, List.count_cons, hi]
    congr 1
    have : (UInt8.ofNat ((a : Int)).toNat == (x : Int).toNat.toUInt8) = (a == x) := by
      rw [Bool.eq_iff_iff, beq_iff_eq, beq_iff_eq]
      constructor
      · intro h
        have := congrArg UInt8.toNat h
        simp at this
        omega
      · rintro rfl
        rfl
    rw [this]
end Go.Proofs.Ytmaffnadmfphpaa
