/- The statements' own 'make1'. -/
import Derived.Test.YtoibfpcobhopeaaMatAwake
namespace Go.Proofs.Ytoibfpcobhopeaa
open Go.RowKit
set_option linter.unusedVariables false

/-- A document's matrix in block M. -/
structure St (w : World) (M r c : Nat) (v : Value) : Prop where
  c0 : w.cell? ⟨M, 0, none⟩ = some (.int .i64 r)
  c1 : w.cell? ⟨M, 1, none⟩ = some (.int .i64 c)
  c2 : w.cell? ⟨M, 2, none⟩ = some v
  fr : ∀ j, w.frozen? ⟨M, j, none⟩ = false
  lt : M < w.heap.size
theorem St.up {S : Nat → Prop} {w w' : World} {M r c : Nat} {v : Value} (h : St w M r c v) (u : Up S w w') (hs : ¬ S M) : St w' M r c v :=
  have hc : ∀ j, w'.cell? ⟨M, j, none⟩ = w.cell? ⟨M, j, none⟩ := fun j => u.cell (p := ⟨M, j, none⟩) h.lt hs
  ⟨(hc 0).trans h.c0, (hc 1).trans h.c1, (hc 2).trans h.c2, fun j => (u.froz (p := ⟨M, j, none⟩) h.lt hs).trans (h.fr j), Nat.lt_of_lt_of_le h.lt u.size⟩
theorem St.alloc {w : World} {M r c : Nat} {v : Value} (h : St w M r c v) (o : Obj) : St (w.alloc o) M r c v := h.up ((Up.refl Nul w).alloc o) id
theorem St.drewN {w : World} {M r c : Nat} {v : Value} (h : St w M r c v) (n : Nat) : St (w.drewN n) M r c v := ⟨h.c0, h.c1, h.c2, h.fr, h.lt⟩
theorem St.set2 {w : World} {M r c : Nat} {v : Value} (h : St w M r c v) (v' : Value) : St (w.setCell ⟨M, 2, none⟩ v') M r c v' :=
  ⟨by rw [World.cell?_setCell_other _ _ _ _ (by simp)]; exact h.c0, by rw [World.cell?_setCell_other _ _ _ _ (by simp)]; exact h.c1, World.cell?_setCell_same _ _ _ h.c2, fun j => by rw [World.frozen?_setCell]; exact h.fr j, by simpa using h.lt⟩
theorem St.other {w : World} {M r c : Nat} {v : Value} (h : St w M r c v) {a : Addr} (ha : M ≠ a.block) (u : Value) : St (w.setCell a u) M r c v :=
  have hh : (w.setCell a u).heap[M]? = w.heap[M]? := Below.heap_setCell _ _ _ _ ha
  have hc : ∀ j, (w.setCell a u).cell? ⟨M, j, none⟩ = w.cell? ⟨M, j, none⟩ := fun j => World.cell?_of_block (w := w) (a := ⟨M, j, none⟩) hh
  ⟨(hc 0).trans h.c0, (hc 1).trans h.c1, (hc 2).trans h.c2, fun j => by rw [World.frozen?_setCell]; exact h.fr j, by simpa using h.lt⟩
theorem St.grown {w w' : World} {M r c : Nat} {v : Value} {row : Option Nat} (h : St w M r c v) (hg : w.grownBy w' row) (hr : row ≠ some M) : St w' M r c v :=
  have hh : w'.heap[M]? = w.heap[M]? := hg.block M h.lt (fun e => hr e.symm)
  have hc : ∀ j, w'.cell? ⟨M, j, none⟩ = w.cell? ⟨M, j, none⟩ := fun j => World.cell?_of_block (w := w) (a := ⟨M, j, none⟩) hh
  ⟨(hc 0).trans h.c0, (hc 1).trans h.c1, (hc 2).trans h.c2, fun j => (World.frozen?_of_block (w := w) (a := ⟨M, j, none⟩) hh).trans (h.fr j), Nat.lt_of_lt_of_le h.lt hg.size⟩
theorem St.new (w : World) (r c : Nat) (v : Value) (t : TypeId) : St (w.alloc (.cells #[.int .i64 r, .int .i64 c, v] t)) w.heap.size r c v :=
  have hc := fun j => World.cell?_alloc_new w #[.int .i64 r, .int .i64 c, v] t j
  ⟨hc 0, hc 1, hc 2, fun j => World.frozen?_alloc_new w _ _ j, by simp⟩

/-- A slice of bytes that came in, as numbers. -/
structure SlN (w : World) (a : Option Addr) (n : Nat) (z : List Nat) : Prop where
  len : z.length = n
  row : n = 0 ∨ ∃ b o, a = some ⟨b, o, none⟩ ∧ b < w.heap.size ∧ Row w b o z
  le : n ≤ 9223372036854775807
theorem SlN.of {w : World} {a : Option Addr} {len cap : Nat} {zs : List Int} (h : CameIn w a len cap zs) : ∃ z, SlN w a len z := by
  rcases came_in h with rfl | ⟨b, o, z, rfl, rfl, r, hb, hm⟩
  · exact ⟨[], rfl, .inl rfl, by omega⟩
  · exact ⟨z, rfl, .inr ⟨b, o, rfl, hb, r⟩, hm⟩
theorem SlN.up {S : Nat → Prop} {w w' : World} {a : Option Addr} {n : Nat} {z : List Nat} (h : SlN w a n z) (u : Up S w w') (hs : ∀ k, k < w.heap.size → ¬ S k) : SlN w' a n z :=
  ⟨h.len, by
    rcases h.row with e | ⟨b, o, e, hb, r⟩
    · exact .inl e
    · exact .inr ⟨b, o, e, Nat.lt_of_lt_of_le hb u.size, r.up u hb (hs b hb)⟩, h.le⟩

/-- Cell i of a matrix that 'make1' makes. -/
def mk1 (z : List Nat) (i : Nat) : Nat := if i < z.length then z.getD i 0 else (i * i + 3 * i + 1) % 256

theorem u8_of_int (n : Nat) (h : n < 1000000) : IntKind.u8.wrap (n : Int) = ((n % 256 : Nat) : Int) := by
  simp [IntKind.wrap, IntKind.signed, IntKind.bits]

theorem OwnB.shape {base : Nat} {w : World} {v : Value} {z : List Nat} (h : OwnB base w v z) : ∃ a n cap, v = .slice a n cap := by
  rcases h.own.2 with ⟨e, _⟩ | ⟨g, cap, cur, e, _⟩
  · exact ⟨_, _, _, e⟩
  · exact ⟨_, _, _, e⟩
theorem tab_succ (k : Nat) (f : Nat → Nat) : tab (k + 1) f = tab k f ++ [f k] := by simp [tab, List.range_succ]
theorem mk1_lt (z : List Nat) (hz : ∀ i, z.getD i 0 < 256) (i : Nat) : mk1 z i < 256 := by
  unfold mk1
  split
  · exact hz i
  · omega
/-- A document's matrix that is being filled: block P for the answer, block M for the matrix. -/
structure Filling (w : World) (P M r c : Nat) (zs : List Nat) (wr : World) (v : Value) : Prop where
  own : OwnB (M + 1) wr v zs
  st : St wr M r c v
  st0 : wr.heap[P]? = some (.cells #[.int .i64 0, .int .i64 0, .slice none 0 0] 35 (0, 0))
  up : Up Nul w wr
  PM : P < M
  Pw : w.heap.size ≤ P
theorem Filling.start (w : World) (r c : Nat) : Filling w w.heap.size (w.heap.size + 1) r c [] ((w.alloc (.cells #[.int .i64 0, .int .i64 0, .slice none 0 0] 35)).alloc (.cells #[.int .i64 r, .int .i64 c, .slice none 0 0] 35)) (.slice none 0 0) := by
  have h := St.new (w.alloc (.cells #[.int .i64 0, .int .i64 0, .slice none 0 0] 35)) r c (.slice none 0 0) 35
  have e : (w.alloc (.cells #[.int .i64 0, .int .i64 0, .slice none 0 0] 35)).heap.size = w.heap.size + 1 := by simp
  rw [e] at h
  exact ⟨OwnB.nil _ _, h, (Below.heap_alloc _ _ _ (by rw [e]; omega)).trans (heap_alloc_new _ _), ((Up.refl _ _).alloc _).alloc _, by omega, Nat.le_refl _⟩
theorem heap3 {w : World} {P : Nat} {x0 x1 x2 : Value} {t : TypeId} (h : w.heap[P]? = some (.cells #[x0, x1, x2] t (0, 0))) (y0 y1 y2 : Value) :
    (((w.setCell ⟨P, 0, none⟩ y0).setCell ⟨P, 1, none⟩ y1).setCell ⟨P, 2, none⟩ y2).heap[P]? = some (.cells #[y0, y1, y2] t (0, 0)) :=
  heap_set_same (heap_set_same (heap_set_same h 0 y0) 1 y1) 2 y2
theorem info_m3 : (Try.prog.info? 35).map (·.size) = some 3 := by kernel_rfl
theorem Filling.after {w wr w2 : World} {P M r c : Nat} {zs : List Nat} {v : Value} {o : Obj} (h : Filling w P M r c zs wr v) (hg : (wr.alloc o).grownBy w2 v.ownBlock) : St w2 M r c v :=
  (h.st.alloc o).grown hg fun e => by have := h.own.base M e; omega
/-- Behind 'm.Cells = append(m.Cells, y)'. -/
theorem Filling.next {w wr w2 : World} {P M r c y : Nat} {zs : List Nat} {v v2 : Value} {o : Obj} (h : Filling w P M r c zs wr v) (hown : OwnB (M + 1) w2 v2 (zs ++ [y])) (hg : (wr.alloc o).grownBy w2 v.ownBlock) : Filling w P M r c (zs ++ [y]) (w2.setCell ⟨M, 2, none⟩ v2) v2 := by
  have hb := h.own.base
  have hM := h.st.lt
  have hP := h.PM
  have hW := h.Pw
  have h0 := h.st0
  have s1 : St w2 M r c v := (h.st.alloc o).grown hg fun e => by have := hb M e; omega
  have s0 : w2.heap[P]? = _ := (hg.block P (by simp; omega) (fun e => by have := hb P e.symm; omega)).trans ((Below.heap_alloc _ _ _ (by omega)).trans h0)
  refine ⟨hown.up (S := One M) ((Up.refl _ _).setCell (p := ⟨M, 2, none⟩) (.inr (show One M M from rfl)) _) (fun k hk e => by unfold One at e; omega), s1.set2 v2, (Below.heap_setCell _ _ _ _ (by show P ≠ M; omega)).trans s0, ?_, hP, hW⟩
  exact ((h.up.alloc o).grown hg fun k hk => by have := hb k hk; omega).setCell (p := ⟨M, 2, none⟩) (.inl (by show _ ≤ M; omega)) _

set_option maxRecDepth 100000 in
set_option maxHeartbeats 1600000 in
theorem make1_any (r c n cap : Nat) (a : Option Addr) (z : List Nat) (w : World) (hr : r ≤ 10) (hc : c ≤ 10) (hz : SlN w a n z) :
    Calls Try.prog 17 #[.int .i64 r, .int .i64 c, .slice a n cap] w
      fun e w' => ∃ v, e = .returned (.agg #[.int .i64 r, .int .i64 c, v]) ∧ OwnB w.heap.size w' v (tab (r * c) (mk1 z)) ∧ Up Nul w w' := by
  have hm : r * c ≤ 100 := Nat.mul_le_mul hr hc
  have hk : (r : Int) * (c : Int) = ((r * c : Nat) : Int) := by simp
  have HS := hid (Filling.start w r c)
  have HZ := hid hz
  have hle := hz.le
  obtain ⟨nn, NN⟩ : ∃ x, Hid (r * c = x) := ⟨_, rfl⟩
  rw [NN.out] at hm hk ⊢
  clear hz
  go_enter Try.func17, Try.ntmps17
  go_wp2_with fail
  generalize ((w.alloc (.cells #[.int .i64 0, .int .i64 0, .slice none 0 0] 35)).alloc (.cells #[.int .i64 r, .int .i64 c, .slice none 0 0] 35)) = w0 at *
  obtain ⟨P, PP⟩ : ∃ x, x = w.heap.size := ⟨_, rfl⟩
  obtain ⟨M, MM⟩ : ∃ x, x = w.heap.size + 1 := ⟨_, rfl⟩
  rw [← MM, ← PP] at HS
  rw [← MM, ← PP]
  clear PP MM
  go_loopw [8] (fun i wr => ∃ k : Nat, k ≤ nn ∧ i = .int .i64 k ∧ ∃ v, Filling w P M r c (tab k (mk1 z)) wr v) (fun i _ => nn - (intOf i).toNat)
  case atStart => exact ⟨0, by omega, rfl, _, HS.out⟩
  case round =>
    clear HS
    obtain ⟨k, hkn, rfl, v, hv⟩ := hrel
    by_cases hlt : k < nn
    · have hkk : k * k ≤ 10000 := Nat.mul_le_mul (show k ≤ 100 by omega) (show k ≤ 100 by omega)
      have ekk : (k : Int) * (k : Int) = ((k * k : Nat) : Int) := by simp
      obtain ⟨k2, K2⟩ : ∃ x, Hid (k * k = x) := ⟨_, rfl⟩
      rw [K2.out] at hkk ekk
      have c2 := hv.st.c2
      have HV := hid hv
      have f2 := hv.st.fr 2
      have hMP : P < M := hv.PM
      clear hv
      obtain ⟨y, Y⟩ : ∃ x, Hid (mk1 z k = x) := ⟨_, rfl⟩
      by_cases hl : k < n
      · obtain ⟨b, o, rfl, hb, hrow⟩ : ∃ b o, a = some ⟨b, o, none⟩ ∧ b < w.heap.size ∧ Row w b o z := by
          rcases HZ.out.row with e | h
          · omega
          · exact h
        have ey : z.getD k 0 = y := by rw [← Y.out, mk1, if_pos (by rw [HZ.out.len]; exact hl)]
        have y8 : y < 256 := by rw [← ey]; exact hrow.small k
        have hcy := (hrow.up HV.out.up hb id).cells k (by rw [HZ.out.len]; exact hl)
        rw [ey] at hcy
        clear ey hrow hb
        go_wp2_with (first | (at_builtin; refine wpList_append_byte rfl (.tmp 37) (.tmp 39) rfl (M + 1) v (tab k (mk1 z)) rfl (HV.out.own.alloc _) ⟨wr.heap.size, 0, none⟩ 1 y rfl (World.cell?_alloc_new wr _ _ 0) y8 (by rw [tab_length]; omega) (by have := HV.out.st.lt; simp; omega) ?_; intro v2 w2 H1 H2; obtain ⟨g2, cap2, e2, _⟩ := H1.out.row (by simp); rw [List.length_append, tab_length] at e2; subst e2; have hg : (wr.alloc (.cells #[.int .u8 y] 5)).grownBy w2 v.ownBlock := H2.out; have s1 := HV.out.after hg; have c3 := s1.c2; have f3 := s1.fr 2; have HG := hid hg; clear hg s1) | go_in)
        go_roundw
        case rel => exact ⟨k + 1, by omega, by go_num, _, by
          have hn := HV.out.next H1.out HG.out
          rw [← Y.out, ← tab_succ] at hn
          exact hn⟩
        case measure => simp [intOf]; omega
      · have y8 : y < 256 := by rw [← Y.out, mk1, if_neg (by rw [HZ.out.len]; exact hl)]; omega
        have ey : ((k2 : Int) + 3 * (k : Int) + 1) % 256 = (y : Int) := by
          rw [← Y.out, mk1, if_neg (by rw [HZ.out.len]; exact hl), K2.out]
          omega
        go_wp2_with (first | (at_builtin; refine wpList_append_byte rfl (.tmp 37) (.tmp 39) rfl (M + 1) v (tab k (mk1 z)) rfl (HV.out.own.alloc _) ⟨wr.heap.size, 0, none⟩ 1 y rfl (World.cell?_alloc_new wr _ _ 0) y8 (by rw [tab_length]; omega) (by have := HV.out.st.lt; simp; omega) ?_; intro v2 w2 H1 H2; obtain ⟨g2, cap2, e2, _⟩ := H1.out.row (by simp); rw [List.length_append, tab_length] at e2; subst e2; have hg : (wr.alloc (.cells #[.int .u8 y] 5)).grownBy w2 v.ownBlock := H2.out; have s1 := HV.out.after hg; have c3 := s1.c2; have f3 := s1.fr 2; have HG := hid hg; clear hg s1) | go_in)
        go_roundw
        case rel => exact ⟨k + 1, by omega, by go_num, _, by
          have hn := HV.out.next H1.out HG.out
          rw [← Y.out, ← tab_succ] at hn
          exact hn⟩
        case measure => simp [intOf]; omega
    · obtain rfl : nn = k := by omega
      obtain ⟨va, vn, vc, rfl⟩ := hv.own.shape
      have HV := hid hv
      have a0 : wr.cell? ⟨P, 0, none⟩ = some (.int .i64 0) := by simp only [World.cell?, hv.st0]; rfl
      have a1 : wr.cell? ⟨P, 1, none⟩ = some (.int .i64 0) := by simp only [World.cell?, hv.st0]; rfl
      have a2 : wr.cell? ⟨P, 2, none⟩ = some (.slice none 0 0) := by simp only [World.cell?, hv.st0]; rfl
      have a3 : ∀ j, wr.frozen? ⟨P, j, none⟩ = false := fun j => by simp [World.frozen?, hv.st0]
      have b0 := hv.st.c0
      have b1 := hv.st.c1
      have b2 := hv.st.c2
      have hMP : P ≠ M := by have := hv.PM; omega
      clear hv
      go_wp2
      refine bodyPost_ret (results_cell_row (P := Try.prog) (ty := 35) rfl _ _ P _ _ _ _ rfl (heap3 HV.out.st0 _ _ _) Try.underlying35 rfl info_m3) rfl ?_
      have hu : Up Nul w (((wr.setCell ⟨P, 0, none⟩ (.int .i64 r)).setCell ⟨P, 1, none⟩ (.int .i64 c)).setCell ⟨P, 2, none⟩ (.slice va vn vc)) :=
        ((HV.out.up.setCell (p := ⟨P, 0, none⟩) (.inl HV.out.Pw) _).setCell (p := ⟨P, 1, none⟩) (.inl HV.out.Pw) _).setCell (p := ⟨P, 2, none⟩) (.inl HV.out.Pw) _
      have hp := HV.out.PM
      have hpw := HV.out.Pw
      refine ⟨_, rfl, ?_, hu⟩
      have ho := HV.out.own.up (S := One P) ((((Up.refl _ wr).setCell (p := ⟨P, 0, none⟩) (.inr (show One P P from rfl)) (.int .i64 r)).setCell (p := ⟨P, 1, none⟩) (.inr (show One P P from rfl)) (.int .i64 c)).setCell (p := ⟨P, 2, none⟩) (.inr (show One P P from rfl)) (.slice va vn vc)) fun k hk e => by unfold One at e; omega
      refine ⟨⟨ho.own.1, ?_⟩, ho.small⟩
      rcases ho.own.2 with h | ⟨g, cap, cur, h1, h2, h3⟩
      · exact .inl h
      · exact .inr ⟨g, cap, cur, h1, by omega, h3⟩
end Go.Proofs.Ytoibfpcobhopeaa
