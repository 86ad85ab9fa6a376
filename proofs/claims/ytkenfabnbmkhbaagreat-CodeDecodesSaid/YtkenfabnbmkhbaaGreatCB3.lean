/- Part 3 of what the walks rest on: MatFind, MatSettle, MatBytes, MatMake, MatBeside. -/
import Derived.Test.YtkenfabnbmkhbaaGreatCB2
namespace Go.Proofs.YtkenfabnbmkhbaaGreat
open Go.RowKit
set_option linter.unusedVariables false

theorem Elim.turn {W w w' : World} {F gl n m : Nat} {b : Nat → Nat} {L : Nat → List Nat} (h : Elim W F gl n m b L w) {i : Nat} (hi : i < n) {y : List Nat} (hy : Blk w' (b i) y) (hl : y.length = m) (u : Up (One (b i)) w w') : Elim W F gl n m b (updL L i y) w' where
  lin := fun k hk => (u.cell (p := ⟨gl, k, none⟩) h.gll fun e => (h.own i hi).2 e.symm).trans (h.lin k hk)
  frz := fun k => (u.froz (p := ⟨gl, k, none⟩) h.gll fun e => (h.own i hi).2 e.symm).trans (h.frz k)
  gll := Nat.lt_of_lt_of_le h.gll u.size
  glo := h.glo
  rows := fun k hk => by
    unfold updL
    split
    · next e => subst e; exact hy
    · next e => exact (h.rows k hk).up u fun e2 => e (h.inj k i hk hi e2)
  lens := fun k hk => by
    unfold updL
    split
    · exact hl
    · exact h.lens k hk
  own := h.own
  inj := h.inj
  up := ⟨u.os.trans h.up.os, u.tape.trans h.up.tape, u.output.trans h.up.output, Nat.le_trans h.up.size u.size, fun k hk hs => (u.block k (Nat.lt_of_lt_of_le hk h.up.size) fun e => by
    have := (h.own i hi).1
    unfold One at e
    omega).trans (h.up.block k hk hs)⟩
theorem some_yes (g at_ m c A x : Nat) (w : World) (ha : at_ < m) (hx : x ≠ 0) (h1 : w.cell? ⟨A, 0, none⟩ = some (.int .i64 at_)) (h2 : w.cell? ⟨g, at_, none⟩ = some (.int .u8 x)) :
    Calls Tryz.prog 80 #[.slice (some ⟨g, 0, none⟩) m c, .pointer (some ⟨A, 0, none⟩)] w fun e w' => e = .returned (.bool true) ∧ w' = w := by
  have hd : ((x : Int) == 0) = false := by simpa using hx
  have hd2 : ((x : Int) != 0) = true := by simpa using hx
  clear hx
  go_enter Tryz.func80, Tryz.ntmps80
  go_wp2
  go_ret
  exact ⟨rfl, rfl⟩
theorem some_no (g at_ m c A : Nat) (w : World) (ha : at_ < m) (h1 : w.cell? ⟨A, 0, none⟩ = some (.int .i64 at_)) (h2 : w.cell? ⟨g, at_, none⟩ = some (.int .u8 0)) :
    Calls Tryz.prog 80 #[.slice (some ⟨g, 0, none⟩) m c, .pointer (some ⟨A, 0, none⟩)] w fun e w' => e = .returned (.bool false) ∧ w' = w := by
  go_enter Tryz.func80, Tryz.ntmps80
  go_wp2
  go_ret
  exact ⟨rfl, rfl⟩
set_option maxHeartbeats 400000 in
/-- The first line from 'at' on that has something in column 'at'. -/
theorem index_some (W : World) (F gl n m at_ t A c : Nat) (b : Nat → Nat) (L : Nat → List Nat) (w : World) (h : Elim W F gl n m b L w) (hA : w.cell? ⟨A, 0, none⟩ = some (.int .i64 at_)) (ha : at_ < m) (hn : n ≤ 32)
    (hp : GfM.pivot n at_ (celL L) = some (at_ + t)) :
    Calls Tryz.prog 74 #[.slice (some ⟨gl, at_, none⟩) (n - at_) c, .func (.func 80) #[] #[.pointer (some ⟨A, 0, none⟩)]] w
      fun e w' => e = .returned (.int .i64 t) ∧ w' = w := by
  obtain ⟨p1, p2, p3, p4⟩ := GfM.pivot_first hp
  have H : Hid _ := h
  have P3 : Hid _ := p3
  have P4 : Hid _ := p4
  clear h p3 p4 hp
  obtain ⟨d, D⟩ : ∃ d, d = n - at_ := ⟨_, rfl⟩
  have l2 : t < d := by omega
  rw [← D]
  have l3 : d ≤ 32 := by omega
  have l4 : at_ + d ≤ n := by omega
  clear D p1 p2
  go_enter Tryz.func74, Tryz.ntmps74
  go_wp2
  go_loopw [8] (fun i wr => ∃ k : Nat, k ≤ t ∧ i = .int .i64 k ∧ wr = w) (fun i _ => t - (intOf i).toNat)
  case atStart => exact ⟨0, by omega, rfl, rfl⟩
  case round =>
    obtain ⟨k, hk, rfl, rfl⟩ := hrel
    have hl : at_ + k < n := by omega
    have hc := H.out.lin _ hl
    have hkd : k < d := by omega
    have hx : wr.cell? ⟨b (at_ + k), at_, none⟩ = some (.int .u8 (celL L (at_ + k) at_)) := (H.out.rows _ hl).cell _ (by rw [H.out.lens _ hl]; exact ha)
    generalize b (at_ + k) = g at hc hx
    by_cases hlt : k < t
    · have e0 := P4.out (at_ + k) (by omega) (by omega)
      rw [e0] at hx
      have hx : wr.cell? ⟨g, at_, none⟩ = some (.int .u8 0) := hx
      go_wp2_with ((go_at_call 80; (with_reducible refine (some_no g at_ m m A _ ha hA hx).mono ?_); rintro e w1 ⟨rfl, rfl⟩))
      go_roundw
      case rel => exact ⟨k + 1, by omega, by go_num, trivial⟩
      case measure => simp [intOf]; omega
    · obtain rfl : k = t := by omega
      have e0 := P3.out
      generalize celL L (at_ + k) at_ = x at hx e0
      have E0 : Hid _ := e0
      clear e0
      go_wp2_with ((go_at_call 80; (with_reducible refine (some_yes g at_ m m A x _ ha E0.out hA hx).mono ?_); rintro e w1 ⟨rfl, rfl⟩))
      go_ret
      exact ⟨rfl, rfl⟩
set_option maxHeartbeats 400000 in
theorem index_none (W : World) (F gl n m at_ A c : Nat) (b : Nat → Nat) (L : Nat → List Nat) (w : World) (h : Elim W F gl n m b L w) (hA : w.cell? ⟨A, 0, none⟩ = some (.int .i64 at_)) (ha : at_ < m) (hn : n ≤ 32)
    (hp : GfM.pivot n at_ (celL L) = none) :
    Calls Tryz.prog 74 #[.slice (some ⟨gl, at_, none⟩) (n - at_) c, .func (.func 80) #[] #[.pointer (some ⟨A, 0, none⟩)]] w
      fun e w' => e = .returned (.int .i64 (-1)) ∧ w' = w := by
  have P4 : Hid _ := GfM.pivot_none hp
  have H : Hid _ := h
  clear h hp
  obtain ⟨d, D⟩ : ∃ d, d = n - at_ := ⟨_, rfl⟩
  rw [← D]
  have l3 : d ≤ 32 := by omega
  have DD : Hid _ := D
  clear D
  go_enter Tryz.func74, Tryz.ntmps74
  go_wp2
  go_loopw [8] (fun i wr => ∃ k : Nat, k ≤ d ∧ i = .int .i64 k ∧ wr = w) (fun i _ => d - (intOf i).toNat)
  case atStart => exact ⟨0, by omega, rfl, rfl⟩
  case round =>
    obtain ⟨k, hk, rfl, rfl⟩ := hrel
    by_cases hkd : k < d
    · have hl : at_ + k < n := by have := DD.out; omega
      have hc := H.out.lin _ hl
      have hx : wr.cell? ⟨b (at_ + k), at_, none⟩ = some (.int .u8 (celL L (at_ + k) at_)) := (H.out.rows _ hl).cell _ (by rw [H.out.lens _ hl]; exact ha)
      generalize b (at_ + k) = g at hc hx
      have e0 := P4.out (at_ + k) (by omega) hl
      rw [e0] at hx
      have hx : wr.cell? ⟨g, at_, none⟩ = some (.int .u8 0) := hx
      go_wp2_with ((go_at_call 80; (with_reducible refine (some_no g at_ m m A _ ha hA hx).mono ?_); rintro e w1 ⟨rfl, rfl⟩))
      go_roundw
      case rel => exact ⟨k + 1, by omega, by go_num, trivial⟩
      case measure => simp [intOf]; omega
    · obtain rfl : k = d := by omega
      go_wp2
      go_ret
      exact ⟨rfl, rfl⟩

/-- Two of f changed for one another. -/
def swpb {α : Type} (i j : Nat) (f : Nat → α) : Nat → α := fun k => if k = i then f j else if k = j then f i else f k
theorem swpb_id {α : Type} {i j : Nat} (f : Nat → α) (k : Nat) : swpb i j f k = f (swpb i j id k) := by
  unfold swpb
  split
  · rfl
  · split <;> rfl
theorem swpb_lt {n i j k : Nat} (hi : i < n) (hj : j < n) (hk : k < n) : swpb i j id k < n := by
  unfold swpb
  split
  · exact hj
  · split
    · exact hi
    · exact hk
theorem swpb_inj {i j k l : Nat} (e : swpb i j id k = swpb i j id l) : k = l := by
  unfold swpb at e
  simp only [id] at e
  by_cases a1 : k = i <;> by_cases a2 : k = j <;> by_cases a3 : l = i <;> by_cases a4 : l = j <;> simp only [a1, a2, a3, a4, if_true, if_false] at e <;> (try split at e) <;> (try split at e) <;> omega
theorem Elim.swap {W w : World} {F gl n m i j : Nat} {b : Nat → Nat} {L : Nat → List Nat} (h : Elim W F gl n m b L w) (hi : i < n) (hj : j < n) :
    Elim W F gl n m (swpb i j b) (swpb i j L) ((w.setCell ⟨gl, i, none⟩ (.slice (some ⟨b j, 0, none⟩) m m)).setCell ⟨gl, j, none⟩ (.slice (some ⟨b i, 0, none⟩) m m)) where
  lin := fun k hk => by
    have h1 : (w.setCell ⟨gl, i, none⟩ (.slice (some ⟨b j, 0, none⟩) m m)).cell? ⟨gl, i, none⟩ = some (.slice (some ⟨b j, 0, none⟩) m m) := World.cell?_setCell_same _ _ _ (h.lin i hi)
    have h2 : ∃ v, (w.setCell ⟨gl, i, none⟩ (.slice (some ⟨b j, 0, none⟩) m m)).cell? ⟨gl, j, none⟩ = some v := by
      by_cases e : j = i
      · subst e; exact ⟨_, h1⟩
      · exact ⟨_, (World.cell?_setCell_other _ _ _ _ (by intro e2; cases e2; exact e rfl)).trans (h.lin j hj)⟩
    obtain ⟨v, h2⟩ := h2
    unfold swpb
    by_cases e2 : k = j
    · subst e2
      rw [World.cell?_setCell_same _ _ _ h2]
      split
      · next e => subst e; rfl
      · rw [if_pos rfl]
    · rw [World.cell?_setCell_other _ _ _ _ (by intro e3; cases e3; exact e2 rfl)]
      by_cases e1 : k = i
      · subst e1
        rw [h1, if_pos rfl]
      · rw [World.cell?_setCell_other _ _ _ _ (by intro e3; cases e3; exact e1 rfl), h.lin k hk, if_neg e1, if_neg e2]
  frz := fun k => by
    rw [World.frozen?_setCell, World.frozen?_setCell]
    exact h.frz k
  gll := by simpa using h.gll
  glo := h.glo
  rows := fun k hk => by
    have hb : ∀ l, l < n → Blk ((w.setCell ⟨gl, i, none⟩ (.slice (some ⟨b j, 0, none⟩) m m)).setCell ⟨gl, j, none⟩ (.slice (some ⟨b i, 0, none⟩) m m)) (b l) (L l) := fun l hl =>
      ((h.rows l hl).other (p := ⟨gl, i, none⟩) (h.own l hl).2 _).other (p := ⟨gl, j, none⟩) (h.own l hl).2 _
    unfold swpb
    split
    · exact hb j hj
    · split
      · exact hb i hi
      · exact hb k hk
  lens := fun k hk => by
    unfold swpb
    split
    · exact h.lens j hj
    · split
      · exact h.lens i hi
      · exact h.lens k hk
  own := fun k hk => by
    unfold swpb
    split
    · exact h.own j hj
    · split
      · exact h.own i hi
      · exact h.own k hk
  inj := fun k l hk hl e => by
    rw [swpb_id b k, swpb_id b l] at e
    exact swpb_inj (h.inj _ _ (swpb_lt hi hj hk) (swpb_lt hi hj hl) e)
  up := (h.up.setCell (p := ⟨gl, i, none⟩) (.inl h.glo) _).setCell (p := ⟨gl, j, none⟩) (.inl h.glo) _
theorem Elim.kept {W w w' : World} {F gl n m : Nat} {b : Nat → Nat} {L : Nat → List Nat} (h : Elim W F gl n m b L w) (hF : F < W.heap.size) (o : Out F w w') : Elim W F gl n m b L w' :=
  have hg : gl ≠ F := by have := h.glo; omega
  { h with
    lin := fun i hi => (o.cell (p := ⟨gl, i, none⟩) hg).trans (h.lin i hi), frz := fun i => (o.froz (p := ⟨gl, i, none⟩) hg).trans (h.frz i)
    gll := by rw [o.size]; exact h.gll, rows := fun i hi => (h.rows i hi).up (Up.of_out o) fun e => by
      have := (h.own i hi).1
      unfold One at e
      omega
    up := h.up.trans (Up.of_out o) }
/-- The lines, the search done. -/
structure Sought (W : World) (p F gl n m at_ A g x : Nat) (b : Nat → Nat) (L : Nat → List Nat) (w : World) : Prop where
  el : Elim W F gl n m b L w
  cA : w.cell? ⟨A, 0, none⟩ = some (.int .i64 at_)
  cF : w.cell? ⟨p, 0, none⟩ = some (.pointer (some ⟨F, 0, none⟩))
  cx : w.cell? ⟨g, at_, none⟩ = some (.int .u8 x)
theorem Sought.drewN {W w : World} {p F gl n m at_ A g x : Nat} {b : Nat → Nat} {L : Nat → List Nat} (h : Sought W p F gl n m at_ A g x b L w) (k : Nat) : Sought W p F gl n m at_ A g x b L (w.drewN k) := ⟨h.el.drewN k, h.cA, h.cF, h.cx⟩
theorem Sought.kept {W w w' : World} {p F gl n m at_ A g x : Nat} {b : Nat → Nat} {L : Nat → List Nat} (h : Sought W p F gl n m at_ A g x b L w) (hF : F < W.heap.size) (hA : A ≠ F) (hp : p ≠ F) (hg : g ≠ F) (o : Out F w w') : Sought W p F gl n m at_ A g x b L w' :=
  ⟨h.el.kept hF o, (o.cell (p := ⟨A, 0, none⟩) hA).trans h.cA, (o.cell (p := ⟨p, 0, none⟩) hp).trans h.cF, (o.cell (p := ⟨g, at_, none⟩) hg).trans h.cx⟩
/-- What a settled line is. -/
def fin (m at_ p : Nat) (L : Nat → List Nat) (i : Nat) : List Nat := tab m fun j => GfM.stl at_ p (celL L) i j
theorem tab_congr {n : Nat} {f g : Nat → Nat} (h : ∀ i, i < n → f i = g i) : tab n f = tab n g := by
  unfold tab
  exact List.map_congr_left fun i hi => h i (List.mem_range.1 hi)
theorem swp_cel (at_ p : Nat) (L : Nat → List Nat) (i j : Nat) : (swpb at_ p L i).getD j 0 = GfM.swp at_ p (celL L) i j := by
  unfold swpb GfM.swp celL
  split
  · rfl
  · split <;> rfl
theorem fin_at (m at_ p : Nat) (L : Nat → List Nat) : fin m at_ p L at_ = tab m fun j => GfM.mul ((L p).getD j 0) (GfM.inv ((L p).getD at_ 0)) :=
  tab_congr fun j _ => by unfold GfM.stl; rw [if_pos rfl]; rfl
theorem fin_row {m at_ p k : Nat} (L : Nat → List Nat) (hk : k ≠ at_) :
    (tab m fun j => (swpb at_ p L k).getD j 0 ^^^ GfM.mul ((fin m at_ p L at_).getD j 0) ((swpb at_ p L k).getD at_ 0)) = fin m at_ p L k :=
  tab_congr fun j hj => by
    rw [swp_cel, swp_cel, fin_at, tab_at _ _ _ hj]
    unfold GfM.stl
    rw [if_neg hk]
    rfl
theorem fin_length (m at_ p : Nat) (L : Nat → List Nat) (i : Nat) : (fin m at_ p L i).length = m := tab_length _ _
/-- The lines, the first k of them swept. -/
structure Swept (W : World) (F gl n m at_ A : Nat) (b : Nat → Nat) (f L1 : Nat → List Nat) (k : Nat) (L : Nat → List Nat) (w : World) : Prop where
  el : Elim W F gl n m b L w
  full : Full F w
  cA : w.cell? ⟨A, 0, none⟩ = some (.int .i64 at_)
  Al : A < w.heap.size
  told : ∀ i, i < n → L i = if i < k ∨ i = at_ then f i else L1 i
theorem Swept.next {W w w' : World} {F gl n m at_ A k : Nat} {b : Nat → Nat} {f L1 L : Nat → List Nat} (h : Swept W F gl n m at_ A b f L1 k L w) (hk : k < n) (hF : F < W.heap.size) (hA : A ≠ b k) {y : List Nat}
    (hy : Blk w' (b k) y) (u : Up (One (b k)) w w') (e : y = f k) (hl : (f k).length = m) : Swept W F gl n m at_ A b f L1 (k + 1) (updL L k y) w' :=
  ⟨h.el.turn hk hy (by rw [e]; exact hl) u, h.full.up u fun e => by
      have := (h.el.own k hk).1
      unfold One at e
      omega,
    (u.cell (p := ⟨A, 0, none⟩) h.Al hA).trans h.cA, Nat.lt_of_lt_of_le h.Al u.size, fun i hi => by
      unfold updL
      by_cases e1 : i = k
      · subst e1; rw [if_pos rfl, if_pos (.inl (Nat.lt_succ_self _)), e]
      · rw [if_neg e1, h.told i hi]
        by_cases e2 : i < k ∨ i = at_
        · rw [if_pos e2, if_pos (by omega)]
        · rw [if_neg e2, if_neg (by omega)]⟩
theorem Swept.skip {W w : World} {F gl n m at_ A : Nat} {b : Nat → Nat} {f L1 L : Nat → List Nat} (h : Swept W F gl n m at_ A b f L1 at_ L w) : Swept W F gl n m at_ A b f L1 (at_ + 1) L w :=
  ⟨h.el, h.full, h.cA, h.Al, fun i hi => by
      rw [h.told i hi]
      by_cases e2 : i < at_ ∨ i = at_
      · rw [if_pos e2, if_pos (by omega)]
      · rw [if_neg e2, if_neg (by omega)]⟩
set_option maxRecDepth 100000 in
set_option maxHeartbeats 1600000 in
theorem settle_some (W : World) (p q F gl n m at_ t r c : Nat) (z : List Nat) (b : Nat → Nat) (L : Nat → List Nat) (w : World) (hM : Mat W p q F r c z) (hFW : F < W.heap.size) (hf : Fld F w) (h : Elim W F gl n m b L w) (ha : at_ < n) (hnm : n ≤ m) (hn : n ≤ 32) (hm : m ≤ 64)
    (hp : GfM.pivot n at_ (celL L) = some (at_ + t)) :
    Calls Tryz.prog 72 #[.pointer (some ⟨p, 0, none⟩), .slice (some ⟨gl, 0, none⟩) n n, .int .i64 at_] w
      fun e w' => e = .returned (.bool true) ∧ ∃ b' L', Elim W F gl n m b' L' w' ∧ Full F w' ∧ ∀ i j, i < n → j < m → (L' i).getD j 0 = GfM.stl at_ (at_ + t) (celL L) i j := by
  have hmf : ∀ (fn : Fn) (first cap : Array Value) (w : World), (Instr.makeFunc fn first cap).run Tryz.prog w = .ok (.func fn first cap) w := fun _ _ _ _ => rfl
  obtain ⟨p1, p2, p3⟩ := GfM.pivot_some hp
  have hA : (w.alloc (.cells #[.int .i64 at_] 3)).cell? ⟨w.heap.size, 0, none⟩ = some (.int .i64 at_) := World.cell?_alloc_new w _ _ 0
  have h1 : Elim W F gl n m b L (w.alloc (.cells #[.int .i64 at_] 3)) := h.alloc _
  have c1 := h1.lin at_ ha
  have c2 := h1.lin (at_ + t) p2
  have f1 := h1.frz at_
  have f2 := h1.frz (at_ + t)
  have gA : gl ≠ w.heap.size := by have := h.gll; omega
  have H : Hid _ := h1
  have HP : Hid _ := hp
  have HM : Hid _ := hM
  have HF : Hid _ := hf.alloc (.cells #[.int .i64 at_] 3)
  have HG : Hid (∀ i, i < n → b i < w.heap.size) := fun i hi => h.lt hi
  have HW : Hid (W.heap.size ≤ w.heap.size) := h.up.size
  have P3 : Hid _ := p3
  clear h hp h1 hM hf p1 p3
  go_enter Tryz.func72, Tryz.ntmps72
  go_wp2_with ((go_at_call 74; (with_reducible refine (index_some W F gl n m at_ t w.heap.size _ b L _ H.out hA (by omega) hn HP.out).mono ?_); rintro e w1 ⟨rfl, rfl⟩))
  generalize w.alloc (.cells #[.int .i64 at_] 3) = w1 at *
  generalize w.heap.size = A at *
  have HS : Hid _ := H.out.swap ha p2
  obtain ⟨v3, c3⟩ : ∃ v, (w1.setCell ⟨gl, at_, none⟩ (.slice (some ⟨b (at_ + t), 0, none⟩) m m)).cell? ⟨gl, at_ + t, none⟩ = some v := cell?_setCell_some (w := w1) c2
  have c4 : ((w1.setCell ⟨gl, at_, none⟩ (.slice (some ⟨b (at_ + t), 0, none⟩) m m)).setCell ⟨gl, at_ + t, none⟩ (.slice (some ⟨b at_, 0, none⟩) m m)).cell? ⟨gl, at_, none⟩ = some (.slice (some ⟨b (at_ + t), 0, none⟩) m m) := by
    have := HS.out.lin at_ ha
    unfold swpb at this
    rw [if_pos rfl] at this
    exact this
  have hq : Sought W p F gl n m at_ A (b (at_ + t)) (celL L (at_ + t) at_) (swpb at_ (at_ + t) b) (swpb at_ (at_ + t) L) ((w1.setCell ⟨gl, at_, none⟩ (.slice (some ⟨b (at_ + t), 0, none⟩) m m)).setCell ⟨gl, at_ + t, none⟩ (.slice (some ⟨b at_, 0, none⟩) m m)) := by
    refine ⟨HS.out, ?_, (HS.out.up.cell (p := ⟨p, 0, none⟩) HM.out.pl HM.out.pF).trans HM.out.f, ?_⟩
    · rw [World.cell?_setCell_other _ _ _ _ (by intro e; have := congrArg Addr.block e; simp at this; omega), World.cell?_setCell_other _ _ _ _ (by intro e; have := congrArg Addr.block e; simp at this; omega)]
      exact hA
    · have h1 := HS.out.rows at_ ha
      have h2 := HS.out.lens at_ ha
      unfold swpb at h1 h2
      rw [if_pos rfl, if_pos rfl] at h1
      rw [if_pos rfl] at h2
      exact h1.cell at_ (by omega)
  have hf2 : Fld F ((w1.setCell ⟨gl, at_, none⟩ (.slice (some ⟨b (at_ + t), 0, none⟩) m m)).setCell ⟨gl, at_ + t, none⟩ (.slice (some ⟨b at_, 0, none⟩) m m)) := by
    have hf1 : Fld F w1 := HF.out
    refine hf1.up (S := One gl) (((Up.refl (One gl) _).setCell (p := ⟨gl, at_, none⟩) (.inr (show One gl gl from rfl)) _).setCell (p := ⟨gl, at_ + t, none⟩) (.inr (show One gl gl from rfl)) _) fun e => ?_
    have := H.out.glo
    unfold One at e
    omega
  have x8 : celL L (at_ + t) at_ < 256 := small_getD (H.out.rows _ p2).small _
  have HQ : Hid (Sought W p F gl n m at_ A (b (at_ + t)) (celL L (at_ + t) at_) (swpb at_ (at_ + t) b) (swpb at_ (at_ + t) L) ((w1.setCell ⟨gl, at_, none⟩ (.slice (some ⟨b (at_ + t), 0, none⟩) m m)).setCell ⟨gl, at_ + t, none⟩ (.slice (some ⟨b at_, 0, none⟩) m m)).drew) := hq.drewN 1
  have HF2 : Hid (Fld F ((w1.setCell ⟨gl, at_, none⟩ (.slice (some ⟨b (at_ + t), 0, none⟩) m m)).setCell ⟨gl, at_ + t, none⟩ (.slice (some ⟨b at_, 0, none⟩) m m)).drew) := hf2.drew
  have HB : Hid (∀ i, i < n → swpb at_ (at_ + t) b i < A) := fun i hi => by
    rw [swpb_id]
    exact HG.out _ (swpb_lt ha p2 hi)
  have HAl : Hid (A < w1.heap.size) := by
    show A < _
    unfold World.cell? at hA
    rcases Nat.lt_or_ge A w1.heap.size with h | h
    · exact h
    · rw [Array.getElem?_eq_none h] at hA; cases hA
  clear hq hf2
  go_region
  go_wp2_with fail
  generalize ((w1.setCell ⟨gl, at_, none⟩ (.slice (some ⟨b (at_ + t), 0, none⟩) m m)).setCell ⟨gl, at_ + t, none⟩ (.slice (some ⟨b at_, 0, none⟩) m m)).drew = w2 at *
  clear c1 c2 c3 v3 f1 f2 hA c4
  have X0 : Hid (celL L (at_ + t) at_ ≠ 0) := P3.out
  obtain ⟨x, X⟩ : ∃ x, Hid (celL L (at_ + t) at_ = x) := ⟨_, rfl⟩
  rw [X.out] at x8 X0 HQ
  have hpF : p ≠ F := HM.out.pF
  have hgF : b (at_ + t) ≠ F := by have := (H.out.own _ p2).1; omega
  have hAF : A ≠ F := by have := HW.out; omega
  obtain ⟨g, G⟩ : ∃ g, Hid (b (at_ + t) = g) := ⟨_, rfl⟩
  rw [G.out] at HQ hgF ⊢
  have q1 := HQ.out.cA
  have q2 := HQ.out.cF
  have q3 := HQ.out.cx
  have i1 : (0 : Int) ≤ (at_ : Int) := by omega
  have i2 : (at_ : Int) < (m : Int) := by omega
  go_region_held3 (fun w' => w'.cell? ⟨A, 0, none⟩ = some (.int .i64 at_) ∧ w'.cell? ⟨p, 0, none⟩ = some (.pointer (some ⟨F, 0, none⟩)) ∧ w'.cell? ⟨g, at_, none⟩ = some (.int .u8 x)) (first | exact ⟨by assumption, by assumption, by assumption⟩ | go_keep)
    ((go_at_call 49; (with_reducible refine (inv_after F x _ HF2.out.drew X0.out x8).mono ?_); rintro e w3 ⟨rfl, k3⟩; have K3 : Hid _ := k3; have r1 := (k3.1.cell (p := ⟨A, 0, none⟩) hAF).trans q1; have r2 := (k3.1.cell (p := ⟨p, 0, none⟩) hpF).trans q2; have r3 := (k3.1.cell (p := ⟨g, at_, none⟩) hgF).trans q3; clear k3))
  go_wp2_with fail
  have e1 : swpb at_ (at_ + t) b at_ = g := by unfold swpb; rw [if_pos rfl]; exact G.out
  have eL : swpb at_ (at_ + t) L at_ = L (at_ + t) := by unfold swpb; rw [if_pos rfl]
  have ht3 : Full F w3 := K3.out.2
  have HE3 : Hid _ := (HQ.out.el.drewN 1).kept hFW K3.out.1
  have Al : A < w3.heap.size := lt_of_cell r1
  have hgA : A ≠ g := by
    have := HB.out at_ ha
    rw [e1] at this
    omega
  have hgp : p ≠ g := by
    have h1 := HM.out.pl
    have h2 := (HE3.out.own at_ ha).1
    rw [e1] at h2
    omega
  have hFg : F ≠ g := fun e => hgF e.symm
  have hb0 : Blk w3 g (L (at_ + t)) := by
    have := HE3.out.rows at_ ha
    rwa [e1, eL] at this
  have hl0 : (L (at_ + t)).length = m := by
    have := HE3.out.lens at_ ha
    rwa [eL] at this
  have i8 := GfM.inv_lt x
  obtain ⟨v, V⟩ : ∃ v, Hid (GfM.inv x = v) := ⟨_, rfl⟩
  rw [V.out] at i8 ⊢
  have HT : Hid _ := Turn.start hb0 hl0 fun j => GfM.mul ((L (at_ + t)).getD j 0) v
  have HFU : Hid _ := ht3
  have HAl3 : Hid _ := Al
  have R1 : Hid _ := r1
  have R2 : Hid _ := r2
  have EE : Hid _ := e1
  clear ht3 hb0 hl0 Al r1 r2 r3 q1 q2 q3 HAl e1 eL
  go_wp2
  go_loopw [57] (fun i wr => ∃ k : Nat, k ≤ m ∧ i = .int .i64 k ∧ ∃ u, Turn w3 g m k (L (at_ + t)) (fun j => GfM.mul ((L (at_ + t)).getD j 0) v) wr u) (fun i _ => m - (intOf i).toNat)
  case atStart => exact ⟨0, by omega, rfl, _, HT.out⟩
  case round =>
    obtain ⟨k, hk, rfl, u, hu⟩ := hrel
    by_cases hlt : k < m
    · obtain ⟨x1, X1⟩ : ∃ v, Hid ((L (at_ + t)).getD k 0 = v) := ⟨_, rfl⟩
      have gx : x1 < 256 := by rw [← X1.out]; exact small_getD HT.out.blk.small _
      have hc0 : wr.cell? ⟨p, 0, none⟩ = some (.pointer (some ⟨F, 0, none⟩)) := (hu.up.cell (p := ⟨p, 0, none⟩) (lt_of_cell R2.out) hgp).trans R2.out
      have hc1 : wr.cell? ⟨g, k, none⟩ = some (.int .u8 x1) := by rw [← X1.out, ← hu.rest k (Nat.le_refl _)]; exact hu.blk.cell _ (by rw [hu.len]; exact hlt)
      have hf1 : wr.frozen? ⟨g, k, none⟩ = false := hu.blk.froz _
      have HFR : Hid _ := HFU.out.up hu.up hFg
      have HU : Hid _ := hu
      have HV : Hid ((fun j => GfM.mul ((L (at_ + t)).getD j 0) v) k = GfM.mul x1 v) := by show GfM.mul _ _ = _; rw [X1.out]
      have g8 := GfM.mul_lt x1 v
      clear hu
      go_wp2
      go_still_tail 13, (by kernel_rfl)
      still_call (mul_full F x1 v _ HFR.out.drew gx i8)
      repeat still_step
      refine wpStill_nil ?_
      change wpList _ _ _ _ _ (wr.drewN 1)
      go_wp2
      go_roundw
      case rel => exact ⟨k + 1, by omega, by go_num, _, HU.out.next hlt HV.out g8 1⟩
      case measure => simp [intOf]; omega
    · obtain rfl : m = k := by omega
      have hs4 : Swept W F gl n m at_ A (swpb at_ (at_ + t) b) (fin m at_ (at_ + t) L) (swpb at_ (at_ + t) L) 0 (updL (swpb at_ (at_ + t) L) at_ (tab m fun j => GfM.mul ((L (at_ + t)).getD j 0) v)) wr := by
        refine ⟨HE3.out.turn ha ?_ (tab_length _ _) ?_, HFU.out.up hu.up hFg, (hu.up.cell (p := ⟨A, 0, none⟩) HAl3.out hgA).trans R1.out, Nat.lt_of_lt_of_le HAl3.out hu.up.size, fun i hi => ?_⟩
        · rw [EE.out]; exact hu.done
        · rw [EE.out]; exact hu.up
        · unfold updL
          by_cases e : i = at_
          · rw [if_pos e, if_pos (.inr e), e, fin_at, ← V.out, ← X.out]
            rfl
          · rw [if_neg e, if_neg (by omega)]
      have HS4 : Hid _ := hs4
      clear hs4 hu
      go_wp2
      go_loopw [76] (fun i wr => ∃ k : Nat, k ≤ n ∧ i = .int .i64 k ∧ ∃ L', Swept W F gl n m at_ A (swpb at_ (at_ + t) b) (fin m at_ (at_ + t) L) (swpb at_ (at_ + t) L) k L' wr) (fun i _ => n - (intOf i).toNat)
      case atStart => exact ⟨0, by omega, rfl, _, HS4.out⟩
      case round =>
        clear HS4 HT
        obtain ⟨k, hk, rfl, L', hs⟩ := hrel
        by_cases hlt : k < n
        · have hcl := hs.el.lin k hlt
          have hcA := hs.cA
          have HS5 : Hid _ := hs
          by_cases hka : k = at_
          · clear hs
            have HK : Hid _ := hka
            have hka2 : ((k : Int) == (at_ : Int)) = true := by simp [hka]
            have hka3 : ((k : Int) != (at_ : Int)) = false := by simp [hka]
            clear hka
            go_wp2
            go_roundw
            case rel => exact ⟨k + 1, by omega, by go_num, L', by have h1 := HS5.out; have h2 := HK.out; subst h2; exact h1.skip⟩
            case measure => simp [intOf]; omega
          · obtain ⟨xk, XK⟩ : ∃ v, Hid ((L' k).getD at_ 0 = v) := ⟨_, rfl⟩
            have hr := hs.el.rows k hlt
            have hx := hr.cell at_ (by rw [hs.el.lens k hlt]; omega)
            rw [XK.out] at hx
            have x8k : xk < 256 := by rw [← XK.out]; exact small_getD hr.small _
            have hra : Blk wr g (L' at_) := by have := hs.el.rows at_ ha; rwa [EE.out] at this
            have hne : swpb at_ (at_ + t) b k ≠ g := fun e => hka (hs.el.inj k at_ hlt ha (e.trans EE.out.symm))
            have hown := (hs.el.own k hlt).1
            have hMr := HM.out.up hs.el.up HM.out.pF HM.out.qF
            have hbA := HB.out k hlt
            have pl := HM.out.pl
            have HC := hid (addTo_any p q F r c (swpb at_ (at_ + t) b k) g xk m m m z (L' k) (L' at_) wr hMr hs.full hr hra (hs.el.lens k hlt) (hs.el.lens at_ ha) hm hne (by omega) (by omega) x8k)
            have HR : Hid ((tab m fun j => (L' k).getD j 0 ^^^ GfM.mul ((L' at_).getD j 0) xk) = fin m at_ (at_ + t) L k) := by
              show _ = _
              rw [← XK.out, hs.told k hlt, hs.told at_ ha, if_neg (by omega), if_pos (.inr rfl)]
              exact fin_row L hka
            have HBA : Hid (A ≠ swpb at_ (at_ + t) b k) := by show _ ≠ _; omega
            have hka2 : ((k : Int) == (at_ : Int)) = false := by simp; omega
            have hka3 : ((k : Int) != (at_ : Int)) = true := by simp; omega
            clear hs hr hra hne hown hMr hbA pl hka
            obtain ⟨bk, BK⟩ : ∃ v, Hid (swpb at_ (at_ + t) b k = v) := ⟨_, rfl⟩
            rw [BK.out] at hcl hx HC HBA
            go_wp2_with ((go_at_call 82; (with_reducible refine HC.out.mono ?_); rintro e w6 ⟨rfl, k6, u6⟩; have H6 : Hid _ := And.intro k6 u6; clear k6 u6))
            go_roundw
            case rel => exact ⟨k + 1, by omega, by go_num, _, HS5.out.next hlt hFW (by rw [BK.out]; exact HBA.out) (by rw [BK.out]; exact H6.out.1) (by rw [BK.out]; exact H6.out.2) HR.out (fin_length _ _ _ _ _)⟩
            case measure => simp [intOf]; omega
        · obtain rfl : n = k := by omega
          have HS5 : Hid _ := hs
          clear hs
          go_wp2
          go_ret
          exact ⟨rfl, _, _, HS5.out.el, HS5.out.full, fun i j hi hj => by rw [HS5.out.told i hi, if_pos (.inl hi)]; exact tab_at _ _ _ hj⟩

/-- z laid over y from o on. -/
def over (y : List Nat) (o : Nat) (z : List Nat) : List Nat := y.take o ++ z ++ y.drop (o + z.length)
theorem over_length {y z : List Nat} {o : Nat} (h : o + z.length ≤ y.length) : (over y o z).length = y.length := by
  simp [over]; omega
theorem over_at {y z : List Nat} {o : Nat} (h : o + z.length ≤ y.length) (i : Nat) : (over y o z).getD i 0 = if o ≤ i ∧ i < o + z.length then z.getD (i - o) 0 else y.getD i 0 := by
  have h1 : (y.take o).length = o := by simp; omega
  simp only [over, List.getD_eq_getElem?_getD, List.append_assoc]
  by_cases a1 : i < o
  · rw [List.getElem?_append_left (by omega), if_neg (by omega), List.getElem?_take, if_pos a1]
  · rw [List.getElem?_append_right (by omega), h1]
    by_cases a2 : i < o + z.length
    · rw [List.getElem?_append_left (by omega), if_pos (by omega)]
    · rw [List.getElem?_append_right (by omega), if_neg (by omega), List.getElem?_drop]
      congr 2
      omega
theorem info_u8_size : (Tryz.prog.info? 5).map (·.size) = some 1 := by kernel_rfl
theorem run_copy_bytes (w : World) (ty : TypeId) (g o n d dCap b so sCap : Nat) (y z : List Nat) (hg : Blk w g y) (hz : Row w b so z) (hl : z.length = n) (hnd : n ≤ d) (hfit : o + n ≤ y.length) :
    ∃ w', (Builtin.copy_ #[22, 22] ty #[.slice (some ⟨g, o, none⟩) d dCap, .slice (some ⟨b, so, none⟩) n sCap]).run Tryz.prog w = .ok (goInt n) w' ∧ Blk w' g (over y o z) ∧ Up (One g) w w' ∧ w'.heap.size = w.heap.size := by
  have hsrc : ∀ (j : Nat) (v : Value), (z.map fun (n : Nat) => Value.int .u8 (n : Int))[j]? = some v → w.cell? (Addr.add ⟨b, so, none⟩ j) = some v := by
    intro j v hv
    rw [List.getElem?_map] at hv
    have hj : j < z.length := by
      rcases Nat.lt_or_ge j z.length with h | h
      · exact h
      · rw [List.getElem?_eq_none h] at hv; cases hv
    rw [List.getElem?_eq_getElem hj] at hv
    have hc := hz.cells j hj
    rw [List.getD_eq_getElem?_getD, List.getElem?_eq_getElem hj] at hc
    have ea : Addr.add ⟨b, so, none⟩ j = ⟨b, so + j, none⟩ := by
      by_cases h0 : j = 0
      · subst h0; simp [Addr.add]
      · simp [Addr.add, h0]
    rw [ea, hc]
    exact hv
  have hlm : (z.map fun (n : Nat) => Value.int .u8 (n : Int)).length = n := by simp [hl]
  have h := run_copy_row (P := Tryz.prog) w 22 22 ty 5 g o d dCap ⟨b, so, none⟩ n sCap (bys y) 5 (z.map fun (n : Nat) => Value.int .u8 (n : Int)) Tryz.underlying22 info_u8_size hg.heap
    (by rw [hlm]; exact (Nat.min_eq_left hnd).symm) hsrc (by rw [hlm, bys_size]; exact hfit) (fun v hv => by
      obtain ⟨k, _, rfl⟩ := List.mem_map.1 hv
      rfl)
  rw [hlm] at h
  refine ⟨_, h, ⟨?_, fun x hx => ?_⟩, ⟨rfl, rfl, rfl, by simp [World.setRow], fun k hk hs => setRow_other w g k _ hs⟩, by simp [World.setRow]⟩
  · have e : ((bys y).toList.take o ++ (z.map fun (n : Nat) => Value.int .u8 (n : Int)) ++ (bys y).toList.drop (o + n)).toArray = bys (over y o z) := by
      simp [bys, over, hl]
    rw [e]
    exact setRow_heap w g _ _ _ _ hg.heap
  · unfold over at hx
    rcases List.mem_append.1 hx with hx | hx
    · rcases List.mem_append.1 hx with hx | hx
      · exact hg.small x (List.mem_of_mem_take hx)
      · obtain ⟨i, hi, rfl⟩ := List.mem_iff_getElem.1 hx
        have := hz.small i
        rwa [List.getD_eq_getElem?_getD, List.getElem?_eq_getElem hi] at this
    · exact hg.small x (List.mem_of_mem_drop hx)
theorem wpList_copy_bytes {w : World} {ops : Array Oper} {rest : List Oper} {o : Oper} {a : Act} {Q : Exit → Act → World → Prop} (hgd : o.guard = none) (d s : Operand)
    (ho : o.op = .call { callee := .builtin .copy, args := #[d, s], argTypes := #[22, 22] }) (g off n dl dCap b so sCap : Nat) (y z : List Nat) (hg : Blk w g y) (hz : Row w b so z) (hl : z.length = n) (hnd : n ≤ dl) (hfit : off + n ≤ y.length)
    (hd : a.eval d = .slice (some ⟨g, off, none⟩) dl dCap) (hs : a.eval s = .slice (some ⟨b, so, none⟩) n sCap)
    (h : ∀ w', Hid (Blk w' g (over y off z)) → Hid (Up (One g) w w' ∧ w'.heap.size = w.heap.size) → wpList Tryz.prog ops Q rest (a.put o.dst (goInt n)) w') : wpList Tryz.prog ops Q (o :: rest) a w := by
  refine wpList_plain hgd fun K hK => ?_
  obtain ⟨w', hrun, h1, h2⟩ := run_copy_bytes w o.type g off n dl dCap b so sCap y z hg hz hl hnd hfit
  unfold Oper.wp
  simp [execOp, ho, resolve, invoke, builtin, hd, hs, hrun, Result.andThen]
  exact hK _ _ (h w' h1 h2)
theorem step_copy_bytes {w : World} {ops : Array Oper} {o : Oper} {a : Act} {K : Act → World → Prop} {Q : Exit → Act → World → Prop} {E : Prop} (hgd : o.guard = none) (d s : Operand)
    (ho : o.op = .call { callee := .builtin .copy, args := #[d, s], argTypes := #[22, 22] }) (g off n dl dCap b so sCap : Nat) (y z : List Nat) (hg : Blk w g y) (hz : Row w b so z) (hl : z.length = n) (hnd : n ≤ dl) (hfit : off + n ≤ y.length)
    (hd : a.eval d = .slice (some ⟨g, off, none⟩) dl dCap) (hs : a.eval s = .slice (some ⟨b, so, none⟩) n sCap)
    (h : ∀ w', Hid (Blk w' g (over y off z)) → Hid (Up (One g) w w' ∧ w'.heap.size = w.heap.size) → K (a.put o.dst (goInt n)) w') : if Region.wanted o (yielded ops a.tmps) = true then Oper.wp Tryz.prog o a w K Q else E := by
  have hw : Region.wanted o (yielded ops a.tmps) = true := by simp [Region.wanted, hgd]
  rw [if_pos hw]
  obtain ⟨w', hrun, h1, h2⟩ := run_copy_bytes w o.type g off n dl dCap b so sCap y z hg hz hl hnd hfit
  unfold Oper.wp
  simp [execOp, ho, resolve, invoke, builtin, hd, hs, hrun, Result.andThen]
  exact h w' h1 h2
/-- The slice v, of the call's own, holds the bytes z. -/
structure OwnB (base : Nat) (w : World) (v : Value) (z : List Nat) : Prop where
  own : w.ownsRow base 5 1 v z.length (z.map fun (n : Nat) => Value.int .u8 (n : Int))
  small : ∀ x ∈ z, x < 256
theorem OwnB.nil (base : Nat) (w : World) : OwnB base w (.slice none 0 0) [] := ⟨World.ownsRow_nil _ _ _ _, fun _ h => by cases h⟩
theorem OwnB.alloc {base : Nat} {w : World} {v : Value} {z : List Nat} (h : OwnB base w v z) (o : Obj) : OwnB base (w.alloc o) v z := ⟨h.own.alloc o, h.small⟩
theorem OwnB.drewN {base : Nat} {w : World} {v : Value} {z : List Nat} (h : OwnB base w v z) (n : Nat) : OwnB base (w.drewN n) v z := ⟨h.own, h.small⟩
theorem OwnB.up {S : Nat → Prop} {base : Nat} {w w' : World} {v : Value} {z : List Nat} (h : OwnB base w v z) (u : Up S w w') (hs : ∀ k, base ≤ k → ¬ S k) : OwnB base w' v z := by
  refine ⟨⟨h.own.1, ?_⟩, h.small⟩
  rcases h.own.2 with hn | ⟨g, cap, cur, h1, h2, h3, h4⟩
  · exact .inl hn
  · exact .inr ⟨g, cap, cur, h1, h2, (u.block g (Array.getElem?_eq_some_iff.1 h3).1 (hs g h2)).trans h3, h4⟩
/-- What holds something lies in a block. -/
theorem OwnB.row {base : Nat} {w : World} {v : Value} {z : List Nat} (h : OwnB base w v z) (h0 : 0 < z.length) :
    ∃ g cap, v = .slice (some ⟨g, 0, none⟩) z.length cap ∧ base ≤ g ∧ g < w.heap.size ∧ Row w g 0 z ∧ (∀ i, w.frozen? ⟨g, i, none⟩ = false) ∧ z.length ≤ cap := by
  rcases h.own.2 with ⟨_, hn⟩ | ⟨g, cap, cur, h1, h2, h3, h4, h5, h6, h7⟩
  · omega
  · refine ⟨g, cap, h1, h2, (Array.getElem?_eq_some_iff.1 h3).1, ⟨fun i hi => ?_, fun i => small_getD h.small i⟩, fun i => by simp [World.frozen?, h3], h4⟩
    have hc : cur[i]? = some (.int .u8 (z.getD i 0)) := by
      have e : (cur.toList.take (z.length * 1))[i]? = some (.int .u8 (z.getD i 0)) := by
        rw [h7, List.getElem?_map, List.getElem?_eq_getElem hi]
        simp [List.getD_eq_getElem?_getD, List.getElem?_eq_getElem hi]
      rw [List.getElem?_take, if_pos (by omega)] at e
      simpa using e
    simp only [World.cell?, h3, Nat.zero_add]
    exact hc
theorem Up.grown {S : Nat → Prop} {W w w' : World} {row : Option Nat} (h : Up S W w) (hg : w.grownBy w' row) (hr : ∀ k, row = some k → W.heap.size ≤ k) : Up S W w' :=
  ⟨hg.os.trans h.os, hg.tape.trans h.tape, hg.output.trans h.output, Nat.le_trans h.size hg.size, fun k hk hs => (hg.block k (Nat.lt_of_lt_of_le hk h.size) fun e => by
    have := hr k e.symm
    omega).trans (h.block k hk hs)⟩
theorem OwnB.base {base : Nat} {w : World} {v : Value} {z : List Nat} (h : OwnB base w v z) : ∀ k, v.ownBlock = some k → base ≤ k := by
  intro k hk
  rcases h.own.2 with ⟨e, _⟩ | ⟨g, cap, cur, e, h2, _⟩
  · subst e; cases hk
  · subst e
    have : g = k := by simpa [Value.ownBlock] using hk
    omega
/-- append(v, y). -/
theorem wpList_append_byte {w : World} {ops : Array Oper} {rest : List Oper} {o : Oper} {a : Act} {Q : Exit → Act → World → Prop} (hgd : o.guard = none) (s x : Operand)
    (ho : o.op = .call { callee := .builtin .append, args := #[s, x], argTypes := #[22, 22] }) (base : Nat) (v : Value) (z : List Nat) (hs : a.eval s = v) (hown : OwnB base w v z)
    (ad : Addr) (cap y : Nat) (hx : a.eval x = .slice (some ad) 1 cap) (hc : w.cell? ad = some (.int .u8 y)) (hy : y < 256) (hl : z.length ≤ 1000000) (hbase : base ≤ w.heap.size)
    (h : ∀ v' w', Hid (OwnB base w' v' (z ++ [y])) → Hid (w.grownBy w' v.ownBlock) → wpList Tryz.prog ops Q rest (a.put o.dst v') w') : wpList Tryz.prog ops Q (o :: rest) a w := by
  obtain ⟨i0, hi, hz0, hz1, hz2⟩ := info_parts info_u8
  refine wpList_append_own w hgd s x 22 ho base 5 i0 (.int .u8 0) 1 1 Tryz.underlying22 hi hz0 hz1 hz2 rfl (by decide) v z.length _ hs hown.own ad 1 cap [.int .u8 y] hx rfl ?_ ?_ (by unfold maxLen; omega) (by omega) hbase fun v' w' h1 h2 _ => h v' w' ⟨by simpa using h1, ?_⟩ h2
  · intro j u hj
    match j, hj with
    | 0, hj => simp at hj; subst hj; simpa [Addr.add] using hc
  · intro u hu
    simp at hu
    subst hu
    rfl
  · intro x hx
    rcases List.mem_append.1 hx with hx | hx
    · exact hown.small x hx
    · simp at hx; omega
/-- append(v, y...). -/
theorem wpList_append_bytes {w : World} {ops : Array Oper} {rest : List Oper} {o : Oper} {a : Act} {Q : Exit → Act → World → Prop} (hgd : o.guard = none) (s x : Operand)
    (ho : o.op = .call { callee := .builtin .append, args := #[s, x], argTypes := #[22, 22] }) (base : Nat) (v : Value) (z : List Nat) (hs : a.eval s = v) (hown : OwnB base w v z)
    (b so n cap : Nat) (y : List Nat) (hx : a.eval x = .slice (some ⟨b, so, none⟩) n cap) (hr : Row w b so y) (hy : y.length = n) (hl : z.length + n ≤ 1000000) (hbase : base ≤ w.heap.size)
    (h : ∀ v' w', Hid (OwnB base w' v' (z ++ y)) → Hid (w.grownBy w' v.ownBlock) → wpList Tryz.prog ops Q rest (a.put o.dst v') w') : wpList Tryz.prog ops Q (o :: rest) a w := by
  obtain ⟨i0, hi, hz0, hz1, hz2⟩ := info_parts info_u8
  refine wpList_append_own w hgd s x 22 ho base 5 i0 (.int .u8 0) 1 1 Tryz.underlying22 hi hz0 hz1 hz2 rfl (by decide) v z.length _ hs hown.own ⟨b, so, none⟩ n cap (y.map fun (n : Nat) => Value.int .u8 (n : Int)) hx (by simp [hy]) ?_ ?_ (by unfold maxLen; omega) (by omega) hbase
    fun v' w' h1 h2 _ => h v' w' ⟨by rw [List.length_append, List.map_append, hy]; exact h1, fun x hx => ?_⟩ h2
  · intro j v hv
    rw [List.getElem?_map] at hv
    have hj : j < y.length := by
      rcases Nat.lt_or_ge j y.length with h | h
      · exact h
      · rw [List.getElem?_eq_none h] at hv; cases hv
    rw [List.getElem?_eq_getElem hj] at hv
    have hc := hr.cells j hj
    rw [List.getD_eq_getElem?_getD, List.getElem?_eq_getElem hj] at hc
    have ea : Addr.add ⟨b, so, none⟩ j = ⟨b, so + j, none⟩ := by
      by_cases h0 : j = 0
      · subst h0; simp [Addr.add]
      · simp [Addr.add, h0]
    rw [ea, hc]
    exact hv
  · intro u hu
    obtain ⟨k, _, rfl⟩ := List.mem_map.1 hu
    rfl
  · rcases List.mem_append.1 hx with hx | hx
    · exact hown.small x hx
    · obtain ⟨i, hi, rfl⟩ := List.mem_iff_getElem.1 hx
      have := hr.small i
      rwa [List.getD_eq_getElem?_getD, List.getElem?_eq_getElem hi] at this
/-- A new row without bytes. -/
theorem OwnB.fresh (base : Nat) (w : World) (hb : base ≤ w.heap.size) : OwnB base (w.alloc (.cells #[] 5)) (.slice (some ⟨w.heap.size, 0, none⟩) 0 0) [] :=
  ⟨⟨rfl, .inr ⟨w.heap.size, 0, #[], rfl, hb, heap_alloc_new _ _, Nat.le_refl _, by unfold maxLen; omega, rfl, rfl⟩⟩, fun _ h => by cases h⟩
/-- The string of some bytes. -/
def strOf (z : List Nat) : ByteArray := ⟨(z.map UInt8.ofNat).toArray⟩
theorem strOf_size (z : List Nat) : (strOf z).size = z.length := by
  show (z.map UInt8.ofNat).toArray.size = _
  simp
theorem nums_strOf {z : List Nat} (h : ∀ i, z.getD i 0 < 256) : nums (strOf z) = z := by
  apply List.ext_getElem
  · simp [nums, strOf]
  · intro i h1 h2
    have := h i
    simp [List.getD_eq_getElem?_getD, List.getElem?_eq_getElem h2] at this
    simp [nums, strOf]
    omega
theorem conv_row {w : World} {b o cap n : Nat} {z : List Nat} (r : Row w b o z) (hl : z.length = n) : (convert 22 9 (.slice (some ⟨b, o, none⟩) n cap)).run Tryz.prog w = .ok (.string (strOf z)) w := by
  have hn := nums_strOf r.small
  rw [← hl, ← strOf_size]
  refine Lib.run_convert_whole (P := Tryz.prog) w 22 5 9 Tryz.underlying22 Tryz.underlying5 Tryz.underlying9 b o _ (fun i hi => ?_) cap
  rw [r.cells i (by rw [← strOf_size]; exact hi)]
  have e := nums_at (strOf z) i hi
  rw [hn] at e
  rw [e]
set_option maxHeartbeats 400000 in
/-- A Matrix of cells. -/
theorem new_good (F r c n b o cap : Nat) (z : List Nat) (w : World) (hF : F < w.heap.size) (r1 : 1 ≤ r) (r2 : r ≤ 32) (c1 : 1 ≤ c) (c2 : c ≤ 32) (hz : Row w b o z) (hb : b < w.heap.size) (hl : z.length = n) (hn : n = r * c) :
    Calls Tryz.prog 27 #[.pointer (some ⟨F, 0, none⟩), .int .i64 r, .int .i64 c, .slice (some ⟨b, o, none⟩) n cap] w
      fun e w' => e = .returned (.tuple #[.pointer (some ⟨w.heap.size + 1, 0, none⟩), .int .i64 0]) ∧ Newm w w' F r c z := by
  have H := hid (blank_good F r c w hF r1 r2 c1 c2)
  have HN := hid hn
  have HZ := hid hz
  have HL := hid hl
  have HB := hid hb
  clear hn hz hl hb
  go_enter Tryz.func27, Tryz.ntmps27
  go_wp2_with fail
  refine H.out.mono ?_
  rintro e w1 ⟨rfl, k1⟩
  have h3 := k1.mat.cells
  rw [← HN.out] at h3
  have hbk := k1.mat.blk
  rw [← HN.out] at hbk
  have HBK := hid hbk
  have hz1 := HZ.out.up k1.up HB.out id
  have HZ1 := hid hz1
  have K1 := hid k1
  clear k1 hz1 hbk
  go_wp2_with ((with_reducible refine wpList_copy_bytes rfl (.tmp 33) (.tmp 34) rfl w.heap.size 0 n n n b o cap (zer n) z HBK.out HZ1.out HL.out (Nat.le_refl _) (by rw [zer_length]; omega) rfl rfl ?_); intro w2 H1 H2)
  go_ret2
  refine ⟨rfl, ?_⟩
  have k1 := K1.out
  have e : over (zer n) 0 z = z := by
    simp [over, zer, HL.out]
  have h1 := H1.out
  rw [e] at h1
  have hs := k1.size
  have hne : w.heap.size + 1 ≠ w.heap.size := by omega
  have hu : ∀ j, w2.cell? ⟨w.heap.size + 1, j, none⟩ = w1.cell? ⟨w.heap.size + 1, j, none⟩ := fun j => H2.out.1.cell (p := ⟨w.heap.size + 1, j, none⟩) k1.mat.pl hne
  refine ⟨{ k1.mat with f := (hu 0).trans k1.mat.f, rows := (hu 1).trans k1.mat.rows, cols := (hu 2).trans k1.mat.cols, cells := (hu 3).trans k1.mat.cells, blk := h1, len := by rw [HL.out, HN.out], pl := Nat.lt_of_lt_of_le k1.mat.pl H2.out.1.size }, ?_, ?_⟩
  · have hu2 := H2.out.1
    exact ⟨hu2.os.trans k1.up.os, hu2.tape.trans k1.up.tape, hu2.output.trans k1.up.output, Nat.le_trans k1.up.size hu2.size, fun k hk hs => (hu2.block k (Nat.lt_of_lt_of_le hk k1.up.size) (by unfold One; omega)).trans (k1.up.block k hk hs)⟩
  · rw [H2.out.2, hs]
set_option maxRecDepth 100000 in
set_option maxHeartbeats 400000 in
theorem clone_any (b o n cap : Nat) (z : List Nat) (w : World) (hz : Row w b o z) (hb : b < w.heap.size) (hl : z.length = n) (hn : 0 < n) (hm : n ≤ 2000) :
    Calls Tryz.prog 50 #[.slice (some ⟨b, o, none⟩) n cap] w fun e w' => ∃ g cap', e = .returned (.slice (some ⟨g, 0, none⟩) n cap') ∧ Row w' g 0 z ∧ w.heap.size ≤ g ∧ g < w'.heap.size ∧ Up Nul w w' := by
  have HZ := hid hz
  have HB := hid hb
  have HL := hid hl
  have heq : ∀ w, (binOp BinOp.eql 22 (.slice (some ⟨b, o, none⟩) n cap) (.slice none 0 0)).run Tryz.prog w = .ok (.bool false) w := fun _ => by kernel_rfl
  have HO := hid (OwnB.fresh w.heap.size w (Nat.le_refl _))
  have HR : Hid (Row (w.alloc (.cells #[] 5)) b o z) := hz.up ((Up.refl Nul w).alloc _) hb id
  clear hz hb hl
  go_enter Tryz.func50, Tryz.ntmps50
  go_wp2_with (first
    | (at_builtin; (refine wpList_append_bytes rfl (.tmp 5) (.tmp 6) rfl w.heap.size _ [] rfl HO.out b o n cap z rfl HR.out HL.out (by simp; omega) (by simp) ?_); intro v' w2 H1 H2)
    | go_in)
  have h1 := H1.out
  rw [List.nil_append] at h1
  have hl := HL.out
  obtain ⟨g, cap', rfl, g1, g2, g3, g4, g5⟩ := h1.row (by omega)
  rw [hl]
  have G := hid (And.intro g1 (And.intro g2 g3))
  have hu : Up Nul w w2 := ((Up.refl Nul w).alloc _).grown H2.out fun k hk => by
    have : w.heap.size = k := by simpa [Value.ownBlock, Act.eval] using hk
    omega
  have HU := hid hu
  clear h1 hl g1 g2 g3 g4 g5 hu
  go_ret
  exact ⟨g, cap', rfl, G.out.2.2, G.out.1, G.out.2.1, HU.out⟩
theorem cells_any (p q F r c : Nat) (z : List Nat) (w : World) (hm : Mat w p q F r c z) :
    Calls Tryz.prog 28 #[.pointer (some ⟨p, 0, none⟩)] w fun e w' => ∃ g cap, e = .returned (.slice (some ⟨g, 0, none⟩) (r * c) cap) ∧ Row w' g 0 z ∧ w.heap.size ≤ g ∧ g < w'.heap.size ∧ Up Nul w w' := by
  have h3 := hm.cells
  have hr := hm.blk.row 0 (r * c) (by rw [hm.len]; omega)
  have e : (z.drop 0).take (r * c) = z := by rw [List.drop_zero, List.take_of_length_le (by rw [hm.len]; exact Nat.le_refl _)]
  rw [e] at hr
  have hmo := hm.most
  have hp := Nat.mul_le_mul hm.r1 hm.c1
  have H := fun k => hid (clone_any q 0 (r * c) k z w hr hm.ql hm.len (by omega) (by omega))
  generalize r * c = n at *
  clear hm hr e
  go_enter Tryz.func28, Tryz.ntmps28
  go_wp2_with ((go_at_call 50; (with_reducible refine (H n).out.mono ?_); rintro e w1 ⟨g, cap, rfl, k1⟩; have K1 := hid k1; clear k1))
  go_ret
  exact ⟨g, cap, rfl, K1.out⟩

/-- The lines, the first k of them made. -/
structure Bes (W : World) (gl n m k : Nat) (b : Nat → Nat) (L : Nat → List Nat) (w : World) : Prop where
  lin : ∀ i, i < k → w.cell? ⟨gl, i, none⟩ = some (.slice (some ⟨b i, 0, none⟩) m m)
  any : ∀ i, i < n → ∃ v, w.cell? ⟨gl, i, none⟩ = some v
  frz : ∀ i, w.frozen? ⟨gl, i, none⟩ = false
  gll : gl < w.heap.size
  glo : W.heap.size ≤ gl
  rows : ∀ i, i < k → Blk w (b i) (L i)
  lens : ∀ i, i < k → (L i).length = m
  own : ∀ i, i < k → W.heap.size ≤ b i ∧ b i ≠ gl
  inj : ∀ i j, i < k → j < k → b i = b j → i = j
  up : Up Nul W w
theorem Bes.alloc {W w : World} {gl n m k : Nat} {b : Nat → Nat} {L : Nat → List Nat} (h : Bes W gl n m k b L w) (o : Obj) : Bes W gl n m k b L (w.alloc o) :=
  have hc : ∀ i, (w.alloc o).cell? ⟨gl, i, none⟩ = w.cell? ⟨gl, i, none⟩ := fun i => World.cell?_alloc_past _ _ _ h.gll
  { h with lin := fun i hi => (hc i).trans (h.lin i hi), any := fun i hi => by rw [hc]; exact h.any i hi, frz := fun i => (World.frozen?_alloc_past _ _ _ h.gll).trans (h.frz i)
           gll := by simpa using Nat.lt_succ_of_lt h.gll, rows := fun i hi => (h.rows i hi).alloc o, up := h.up.alloc o }
theorem Bes.drewN {W w : World} {gl n m k : Nat} {b : Nat → Nat} {L : Nat → List Nat} (h : Bes W gl n m k b L w) (d : Nat) : Bes W gl n m k b L (w.drewN d) :=
  { h with lin := h.lin, any := h.any, frz := h.frz, gll := h.gll, rows := fun i hi => (h.rows i hi).drewN d, up := h.up.drewN d }
theorem Bes.elim {W w : World} {F gl n m : Nat} {b : Nat → Nat} {L : Nat → List Nat} (h : Bes W gl n m n b L w) : Elim W F gl n m b L w :=
  ⟨h.lin, h.frz, h.gll, h.glo, h.rows, h.lens, h.own, h.inj, h.up.nul⟩
/-- One line more: a new block. -/
theorem Bes.next {W w w2 : World} {gl n m k g : Nat} {b : Nat → Nat} {L : Nat → List Nat} {y : List Nat} (h : Bes W gl n m k b L w) (hk : k < n) (hg : g = w.heap.size)
    (c1 : w2.cell? ⟨gl, k, none⟩ = some (.slice (some ⟨g, 0, none⟩) m m)) (hb : Blk w2 g y) (hl : y.length = m) (hs : w.heap.size ≤ w2.heap.size)
    (os : w2.os = w.os) (tape : w2.tape = w.tape) (output : w2.output = w.output) (hu : ∀ j, j < w.heap.size → j ≠ gl → w2.heap[j]? = w.heap[j]?) (hc : ∀ i, i ≠ k → w2.cell? ⟨gl, i, none⟩ = w.cell? ⟨gl, i, none⟩) (hf : ∀ i, w2.frozen? ⟨gl, i, none⟩ = false) :
    Bes W gl n m (k + 1) (fun i => if i = k then g else b i) (fun i => if i = k then y else L i) w2 where
  lin := fun i hi => by
    by_cases e : i = k
    · subst e; rw [c1]; simp
    · rw [hc i e, h.lin i (by omega)]; simp [e]
  any := fun i hi => by
    by_cases e : i = k
    · subst e; exact ⟨_, c1⟩
    · rw [hc i e]; exact h.any i hi
  frz := hf
  gll := Nat.lt_of_lt_of_le h.gll hs
  glo := h.glo
  rows := fun i hi => by
    by_cases e : i = k
    · subst e; simpa using hb
    · have hr := h.rows i (by omega)
      have ho := h.own i (by omega)
      simp only [e, if_false]
      exact ⟨(hu _ hr.lt ho.2).trans hr.heap, hr.small⟩
  lens := fun i hi => by
    by_cases e : i = k
    · simp [e, hl]
    · simp only [e, if_false]; exact h.lens i (by omega)
  own := fun i hi => by
    by_cases e : i = k
    · have := h.up.size
      have := h.gll
      simp only [e, if_true]
      omega
    · simp only [e, if_false]; exact h.own i (by omega)
  inj := fun i j hi hj e => by
    have hlt : ∀ l, l < k → b l < w.heap.size := fun l hl => (h.rows l hl).lt
    by_cases e1 : i = k
    · by_cases e2 : j = k
      · omega
      · simp only [e1, e2, if_true, if_false] at e
        have := hlt j (by omega)
        omega
    · by_cases e2 : j = k
      · simp only [e1, e2, if_true, if_false] at e
        have := hlt i (by omega)
        omega
      · simp only [e1, e2, if_false] at e
        exact h.inj i j (by omega) (by omega) e
  up := ⟨os.trans h.up.os, tape.trans h.up.tape, output.trans h.up.output, Nat.le_trans h.up.size hs, fun j hj hn => by
    have := h.glo
    rw [hu j (Nat.lt_of_lt_of_le hj h.up.size) (by omega)]
    exact h.up.block j hj hn⟩
theorem info_sl : (Tryz.prog.info? 22).map (fun i => (i.zero, i.size, i.bytes)) = some (some (.slice none 0 0), 1, 24) := by kernel_rfl
/-- n slices without bytes. -/
def nilS (n : Nat) : Array Value := madeCells (Value.slice none 0 0).cells (n * 1)
theorem nilS_at (n i : Nat) (h : i < n) : (nilS n)[i]? = some (.slice none 0 0) := by
  have h0 : i % 1 = 0 := Nat.mod_one i
  simp [nilS, madeCells, Value.cells, h, h0]
theorem make_slices (w : World) (n : Nat) (hn : n ≤ 1000) :
    (Instr.makeSlice 34 (.int .i64 n) (.int .i64 n)).run Tryz.prog w = .ok (.slice (some ⟨w.heap.size, 0, none⟩) n n) (w.alloc (.cells (nilS n) 22)) := by
  obtain ⟨i0, hi, hz0, hz1, hz2⟩ := info_parts info_sl
  have := run_make (P := Tryz.prog) (w := w) 34 22 i0 (.slice none 0 0) Tryz.underlying34 hi hz0 .i64 .i64 n n (by omega) (Int.le_refl _) (by rw [hz2]; omega) (by omega)
  rw [this, hz1, Int.toNat_natCast]
  rfl
theorem Bes.start (w : World) (n m : Nat) (b : Nat → Nat) (L : Nat → List Nat) : Bes w w.heap.size n m 0 b L (w.alloc (.cells (nilS n) 22)) :=
  have no : ∀ {p : Prop} {i : Nat}, i < 0 → p := fun h => absurd h (Nat.not_lt_zero _)
  ⟨fun _ h => no h, fun i hi => ⟨_, (World.cell?_alloc_new w _ _ i).trans (nilS_at n i hi)⟩, fun i => World.frozen?_alloc_new w _ _ i, by simp, Nat.le_refl _, fun _ h => no h, fun _ h => no h, fun _ h => no h, fun _ _ h => no h, (Up.refl _ _).alloc _⟩
/-- Row i of n rows of n cells, that of the unit behind it. -/
def besRow (n : Nat) (z : List Nat) (i : Nat) : List Nat := tab (2 * n) fun j => GfM.beside n (fun i j => z.getD (i * n + j) 0) i j
theorem besRow_eq {n i : Nat} {z : List Nat} (hi : i < n) (hz : i * n + n ≤ z.length) : (over (zer (2 * n)) 0 ((z.drop (i * n)).take n)).set (n + i) 1 = besRow n z i := by
  have hl : ((z.drop (i * n)).take n).length = n := by simp; omega
  have h0 : 0 + ((z.drop (i * n)).take n).length ≤ (zer (2 * n)).length := by rw [hl, zer_length]; omega
  refine eq_tab (by rw [List.length_set, over_length h0, zer_length]) fun j hj => ?_
  rw [getD_set _ _ _ _ (by rw [over_length h0, zer_length]; omega), over_at h0, hl]
  unfold GfM.beside
  by_cases e1 : j = n + i
  · rw [if_pos e1, if_neg (by omega), if_pos e1]
  · rw [if_neg e1]
    by_cases e2 : j < n
    · rw [if_pos (by omega), if_pos e2]
      simp [List.getD_eq_getElem?_getD, e2, List.getElem?_drop]
    · rw [if_neg (by omega), if_neg e2, if_neg e1, zer_at]
end Go.Proofs.YtkenfabnbmkhbaaGreat
