/- 'settle': one column of an elimination. -/
import Derived.Test.YtebglmfdchfplaaMatFind
import Derived.BigRegion
namespace Go.Proofs.Ytebglmfdchfplaa
open Go.RowKit
set_option linter.unusedVariables false

/-- Two of f changed for one another. -/
def swpb {α : Type} (i j : Nat) (f : Nat → α) : Nat → α := fun k => if k = i then f j else if k = j then f i else f k
theorem swpb_id {α : Type} {i j : Nat} (f : Nat → α) (k : Nat) : swpb i j f k = f (swpb i j id k) := by
  unfold swpb
  split
  · rfl
  · split <;> rfl
theorem swpb_lt {n i j k : Nat} (hi : i < n) (hj : j < n) (hk : k < n) : swpb i j id k < n := by
  unfold swpb
  split
  · exact hj
  · split
    · exact hi
    · exact hk
theorem swpb_inj {i j k l : Nat} (e : swpb i j id k = swpb i j id l) : k = l := by
  unfold swpb at e
  simp only [id] at e
  by_cases a1 : k = i <;> by_cases a2 : k = j <;> by_cases a3 : l = i <;> by_cases a4 : l = j <;> simp only [a1, a2, a3, a4, if_true, if_false] at e <;> (try split at e) <;> (try split at e) <;> omega
theorem Elim.swap {W w : World} {F gl n m i j : Nat} {b : Nat → Nat} {L : Nat → List Nat} (h : Elim W F gl n m b L w) (hi : i < n) (hj : j < n) :
    Elim W F gl n m (swpb i j b) (swpb i j L) ((w.setCell ⟨gl, i, none⟩ (.slice (some ⟨b j, 0, none⟩) m m)).setCell ⟨gl, j, none⟩ (.slice (some ⟨b i, 0, none⟩) m m)) where
  lin := fun k hk => by
    have h1 : (w.setCell ⟨gl, i, none⟩ (.slice (some ⟨b j, 0, none⟩) m m)).cell? ⟨gl, i, none⟩ = some (.slice (some ⟨b j, 0, none⟩) m m) := World.cell?_setCell_same _ _ _ (h.lin i hi)
    have h2 : ∃ v, (w.setCell ⟨gl, i, none⟩ (.slice (some ⟨b j, 0, none⟩) m m)).cell? ⟨gl, j, none⟩ = some v := by
      by_cases e : j = i
      · subst e; exact ⟨_, h1⟩
      · exact ⟨_, (World.cell?_setCell_other _ _ _ _ (by intro e2; cases e2; exact e rfl)).trans (h.lin j hj)⟩
    obtain ⟨v, h2⟩ := h2
    unfold swpb
    by_cases e2 : k = j
    · subst e2
      rw [World.cell?_setCell_same _ _ _ h2]
      split
      · next e => subst e; rfl
      · rw [if_pos rfl]
    · rw [World.cell?_setCell_other _ _ _ _ (by intro e3; cases e3; exact e2 rfl)]
      by_cases e1 : k = i
      · subst e1
        rw [h1, if_pos rfl]
      · rw [World.cell?_setCell_other _ _ _ _ (by intro e3; cases e3; exact e1 rfl), h.lin k hk, if_neg e1, if_neg e2]
  frz := fun k => by
    rw [World.frozen?_setCell, World.frozen?_setCell]
    exact h.frz k
  gll := by simpa using h.gll
  glo := h.glo
  rows := fun k hk => by
    have hb : ∀ l, l < n → Blk ((w.setCell ⟨gl, i, none⟩ (.slice (some ⟨b j, 0, none⟩) m m)).setCell ⟨gl, j, none⟩ (.slice (some ⟨b i, 0, none⟩) m m)) (b l) (L l) := fun l hl =>
      ((h.rows l hl).other (p := ⟨gl, i, none⟩) (h.own l hl).2 _).other (p := ⟨gl, j, none⟩) (h.own l hl).2 _
    unfold swpb
    split
    · exact hb j hj
    · split
      · exact hb i hi
      · exact hb k hk
  lens := fun k hk => by
    unfold swpb
    split
    · exact h.lens j hj
    · split
      · exact h.lens i hi
      · exact h.lens k hk
  own := fun k hk => by
    unfold swpb
    split
    · exact h.own j hj
    · split
      · exact h.own i hi
      · exact h.own k hk
  inj := fun k l hk hl e => by
    rw [swpb_id b k, swpb_id b l] at e
    exact swpb_inj (h.inj _ _ (swpb_lt hi hj hk) (swpb_lt hi hj hl) e)
  up := (h.up.setCell (p := ⟨gl, i, none⟩) (.inl h.glo) _).setCell (p := ⟨gl, j, none⟩) (.inl h.glo) _

theorem Elim.kept {W w w' : World} {F gl n m : Nat} {b : Nat → Nat} {L : Nat → List Nat} (h : Elim W F gl n m b L w) (hF : F < W.heap.size) (o : Out F w w') : Elim W F gl n m b L w' :=
  have hg : gl ≠ F := by have := h.glo; omega
  { h with
    lin := fun i hi => (o.cell (p := ⟨gl, i, none⟩) hg).trans (h.lin i hi), frz := fun i => (o.froz (p := ⟨gl, i, none⟩) hg).trans (h.frz i)
    gll := by rw [o.size]; exact h.gll, rows := fun i hi => (h.rows i hi).up (Up.of_out o) fun e => by
      have := (h.own i hi).1
      unfold One at e
      omega
    up := h.up.trans (Up.of_out o) }

/-- Where no line has anything in the column: false. -/
theorem settle_none (W : World) (p F gl n m at_ : Nat) (b : Nat → Nat) (L : Nat → List Nat) (w : World) (h : Elim W F gl n m b L w) (ha : at_ < n) (hnm : n ≤ m) (hn : n ≤ 32)
    (hp : GfM.pivot n at_ (celL L) = none) :
    Calls Try.prog 76 #[.pointer (some ⟨p, 0, none⟩), .slice (some ⟨gl, 0, none⟩) n n, .int .i64 at_] w
      fun e w' => e = .returned (.bool false) ∧ Up (One F) W w' := by
  have hmf : ∀ (fn : Fn) (first cap : Array Value) (w : World), (Instr.makeFunc fn first cap).run Try.prog w = .ok (.func fn first cap) w := fun _ _ _ _ => rfl
  have hA : (w.alloc (.cells #[.int .i64 at_] 3)).cell? ⟨w.heap.size, 0, none⟩ = some (.int .i64 at_) := World.cell?_alloc_new w _ _ 0
  have H : Hid _ := h.alloc (.cells #[.int .i64 at_] 3)
  have HP : Hid _ := hp
  clear h hp
  go_enter Try.func76, Try.ntmps76
  go_wp2_with ((go_at_call 71; (with_reducible refine (index_none W F gl n m at_ w.heap.size _ b L _ H.out hA (by omega) hn HP.out).mono ?_); rintro e w1 ⟨rfl, rfl⟩))
  go_ret
  exact ⟨rfl, H.out.up⟩

/-- The lines, the search done. -/
structure Sought (W : World) (p F gl n m at_ A g x : Nat) (b : Nat → Nat) (L : Nat → List Nat) (w : World) : Prop where
  el : Elim W F gl n m b L w
  cA : w.cell? ⟨A, 0, none⟩ = some (.int .i64 at_)
  cF : w.cell? ⟨p, 0, none⟩ = some (.pointer (some ⟨F, 0, none⟩))
  cx : w.cell? ⟨g, at_, none⟩ = some (.int .u8 x)
theorem Sought.drewN {W w : World} {p F gl n m at_ A g x : Nat} {b : Nat → Nat} {L : Nat → List Nat} (h : Sought W p F gl n m at_ A g x b L w) (k : Nat) : Sought W p F gl n m at_ A g x b L (w.drewN k) := ⟨h.el.drewN k, h.cA, h.cF, h.cx⟩
theorem Sought.kept {W w w' : World} {p F gl n m at_ A g x : Nat} {b : Nat → Nat} {L : Nat → List Nat} (h : Sought W p F gl n m at_ A g x b L w) (hF : F < W.heap.size) (hA : A ≠ F) (hp : p ≠ F) (hg : g ≠ F) (o : Out F w w') : Sought W p F gl n m at_ A g x b L w' :=
  ⟨h.el.kept hF o, (o.cell (p := ⟨A, 0, none⟩) hA).trans h.cA, (o.cell (p := ⟨p, 0, none⟩) hp).trans h.cF, (o.cell (p := ⟨g, at_, none⟩) hg).trans h.cx⟩

/-- What a settled line is. -/
def fin (m at_ p : Nat) (L : Nat → List Nat) (i : Nat) : List Nat := tab m fun j => GfM.stl at_ p (celL L) i j
theorem tab_congr {n : Nat} {f g : Nat → Nat} (h : ∀ i, i < n → f i = g i) : tab n f = tab n g := by
  unfold tab
  exact List.map_congr_left fun i hi => h i (List.mem_range.1 hi)
theorem swp_cel (at_ p : Nat) (L : Nat → List Nat) (i j : Nat) : (swpb at_ p L i).getD j 0 = GfM.swp at_ p (celL L) i j := by
  unfold swpb GfM.swp celL
  split
  · rfl
  · split <;> rfl
theorem fin_at (m at_ p : Nat) (L : Nat → List Nat) : fin m at_ p L at_ = tab m fun j => GfM.mul ((L p).getD j 0) (GfM.inv ((L p).getD at_ 0)) :=
  tab_congr fun j _ => by unfold GfM.stl; rw [if_pos rfl]; rfl
theorem fin_row {m at_ p k : Nat} (L : Nat → List Nat) (hk : k ≠ at_) :
    (tab m fun j => (swpb at_ p L k).getD j 0 ^^^ GfM.mul ((fin m at_ p L at_).getD j 0) ((swpb at_ p L k).getD at_ 0)) = fin m at_ p L k :=
  tab_congr fun j hj => by
    rw [swp_cel, swp_cel, fin_at, tab_at _ _ _ hj]
    unfold GfM.stl
    rw [if_neg hk]
    rfl
theorem fin_length (m at_ p : Nat) (L : Nat → List Nat) (i : Nat) : (fin m at_ p L i).length = m := tab_length _ _

/-- The lines, the first k of them swept. -/
structure Swept (W : World) (F gl n m at_ A : Nat) (b : Nat → Nat) (f L1 : Nat → List Nat) (k : Nat) (L : Nat → List Nat) (w : World) : Prop where
  el : Elim W F gl n m b L w
  full : Full F w
  cA : w.cell? ⟨A, 0, none⟩ = some (.int .i64 at_)
  Al : A < w.heap.size
  told : ∀ i, i < n → L i = if i < k ∨ i = at_ then f i else L1 i
theorem Swept.next {W w w' : World} {F gl n m at_ A k : Nat} {b : Nat → Nat} {f L1 L : Nat → List Nat} (h : Swept W F gl n m at_ A b f L1 k L w) (hk : k < n) (hF : F < W.heap.size) (hA : A ≠ b k) {y : List Nat}
    (hy : Blk w' (b k) y) (u : Up (One (b k)) w w') (e : y = f k) (hl : (f k).length = m) : Swept W F gl n m at_ A b f L1 (k + 1) (updL L k y) w' :=
  ⟨h.el.turn hk hy (by rw [e]; exact hl) u, h.full.up u fun e => by
      have := (h.el.own k hk).1
      unfold One at e
      omega,
    (u.cell (p := ⟨A, 0, none⟩) h.Al hA).trans h.cA, Nat.lt_of_lt_of_le h.Al u.size, fun i hi => by
      unfold updL
      by_cases e1 : i = k
      · subst e1; rw [if_pos rfl, if_pos (.inl (Nat.lt_succ_self _)), e]
      · rw [if_neg e1, h.told i hi]
        by_cases e2 : i < k ∨ i = at_
        · rw [if_pos e2, if_pos (by omega)]
        · rw [if_neg e2, if_neg (by omega)]⟩
theorem Swept.skip {W w : World} {F gl n m at_ A : Nat} {b : Nat → Nat} {f L1 L : Nat → List Nat} (h : Swept W F gl n m at_ A b f L1 at_ L w) : Swept W F gl n m at_ A b f L1 (at_ + 1) L w :=
  ⟨h.el, h.full, h.cA, h.Al, fun i hi => by
      rw [h.told i hi]
      by_cases e2 : i < at_ ∨ i = at_
      · rw [if_pos e2, if_pos (by omega)]
      · rw [if_neg e2, if_neg (by omega)]⟩

set_option maxRecDepth 100000 in
set_option maxHeartbeats 1600000 in
theorem settle_some (W : World) (p q F gl n m at_ t r c : Nat) (z : List Nat) (b : Nat → Nat) (L : Nat → List Nat) (w : World) (hM : Mat W p q F r c z) (hFW : F < W.heap.size) (hf : Fld F w) (h : Elim W F gl n m b L w) (ha : at_ < n) (hnm : n ≤ m) (hn : n ≤ 32) (hm : m ≤ 64)
    (hp : GfM.pivot n at_ (celL L) = some (at_ + t)) :
    Calls Try.prog 76 #[.pointer (some ⟨p, 0, none⟩), .slice (some ⟨gl, 0, none⟩) n n, .int .i64 at_] w
      fun e w' => e = .returned (.bool true) ∧ ∃ b' L', Elim W F gl n m b' L' w' ∧ Full F w' ∧ ∀ i j, i < n → j < m → (L' i).getD j 0 = GfM.stl at_ (at_ + t) (celL L) i j := by
  have hmf : ∀ (fn : Fn) (first cap : Array Value) (w : World), (Instr.makeFunc fn first cap).run Try.prog w = .ok (.func fn first cap) w := fun _ _ _ _ => rfl
  obtain ⟨p1, p2, p3⟩ := GfM.pivot_some hp
  have hA : (w.alloc (.cells #[.int .i64 at_] 3)).cell? ⟨w.heap.size, 0, none⟩ = some (.int .i64 at_) := World.cell?_alloc_new w _ _ 0
  have h1 : Elim W F gl n m b L (w.alloc (.cells #[.int .i64 at_] 3)) := h.alloc _
  have c1 := h1.lin at_ ha
  have c2 := h1.lin (at_ + t) p2
  have f1 := h1.frz at_
  have f2 := h1.frz (at_ + t)
  have gA : gl ≠ w.heap.size := by have := h.gll; omega
  have H : Hid _ := h1
  have HP : Hid _ := hp
  have HM : Hid _ := hM
  have HF : Hid _ := hf.alloc (.cells #[.int .i64 at_] 3)
  have HG : Hid (∀ i, i < n → b i < w.heap.size) := fun i hi => h.lt hi
  have HW : Hid (W.heap.size ≤ w.heap.size) := h.up.size
  have P3 : Hid _ := p3
  clear h hp h1 hM hf p1 p3
  go_enter Try.func76, Try.ntmps76
  go_wp2_with ((go_at_call 71; (with_reducible refine (index_some W F gl n m at_ t w.heap.size _ b L _ H.out hA (by omega) hn HP.out).mono ?_); rintro e w1 ⟨rfl, rfl⟩))
  generalize w.alloc (.cells #[.int .i64 at_] 3) = w1 at *
  generalize w.heap.size = A at *
  have HS : Hid _ := H.out.swap ha p2
  obtain ⟨v3, c3⟩ : ∃ v, (w1.setCell ⟨gl, at_, none⟩ (.slice (some ⟨b (at_ + t), 0, none⟩) m m)).cell? ⟨gl, at_ + t, none⟩ = some v := cell?_setCell_some (w := w1) c2
  have c4 : ((w1.setCell ⟨gl, at_, none⟩ (.slice (some ⟨b (at_ + t), 0, none⟩) m m)).setCell ⟨gl, at_ + t, none⟩ (.slice (some ⟨b at_, 0, none⟩) m m)).cell? ⟨gl, at_, none⟩ = some (.slice (some ⟨b (at_ + t), 0, none⟩) m m) := by
    have := HS.out.lin at_ ha
    unfold swpb at this
    rw [if_pos rfl] at this
    exact this
  have hq : Sought W p F gl n m at_ A (b (at_ + t)) (celL L (at_ + t) at_) (swpb at_ (at_ + t) b) (swpb at_ (at_ + t) L) ((w1.setCell ⟨gl, at_, none⟩ (.slice (some ⟨b (at_ + t), 0, none⟩) m m)).setCell ⟨gl, at_ + t, none⟩ (.slice (some ⟨b at_, 0, none⟩) m m)) := by
    refine ⟨HS.out, ?_, (HS.out.up.cell (p := ⟨p, 0, none⟩) HM.out.pl HM.out.pF).trans HM.out.f, ?_⟩
    · rw [World.cell?_setCell_other _ _ _ _ (by intro e; have := congrArg Addr.block e; simp at this; omega), World.cell?_setCell_other _ _ _ _ (by intro e; have := congrArg Addr.block e; simp at this; omega)]
      exact hA
    · have h1 := HS.out.rows at_ ha
      have h2 := HS.out.lens at_ ha
      unfold swpb at h1 h2
      rw [if_pos rfl, if_pos rfl] at h1
      rw [if_pos rfl] at h2
      exact h1.cell at_ (by omega)
  have hf2 : Fld F ((w1.setCell ⟨gl, at_, none⟩ (.slice (some ⟨b (at_ + t), 0, none⟩) m m)).setCell ⟨gl, at_ + t, none⟩ (.slice (some ⟨b at_, 0, none⟩) m m)) := by
    have hf1 : Fld F w1 := HF.out
    refine hf1.up (S := One gl) (((Up.refl (One gl) _).setCell (p := ⟨gl, at_, none⟩) (.inr (show One gl gl from rfl)) _).setCell (p := ⟨gl, at_ + t, none⟩) (.inr (show One gl gl from rfl)) _) fun e => ?_
    have := H.out.glo
    unfold One at e
    omega
  have x8 : celL L (at_ + t) at_ < 256 := small_getD (H.out.rows _ p2).small _
  have HQ : Hid (Sought W p F gl n m at_ A (b (at_ + t)) (celL L (at_ + t) at_) (swpb at_ (at_ + t) b) (swpb at_ (at_ + t) L) ((w1.setCell ⟨gl, at_, none⟩ (.slice (some ⟨b (at_ + t), 0, none⟩) m m)).setCell ⟨gl, at_ + t, none⟩ (.slice (some ⟨b at_, 0, none⟩) m m)).drew) := hq.drewN 1
  have HF2 : Hid (Fld F ((w1.setCell ⟨gl, at_, none⟩ (.slice (some ⟨b (at_ + t), 0, none⟩) m m)).setCell ⟨gl, at_ + t, none⟩ (.slice (some ⟨b at_, 0, none⟩) m m)).drew) := hf2.drew
  have HB : Hid (∀ i, i < n → swpb at_ (at_ + t) b i < A) := fun i hi => by
    rw [swpb_id]
    exact HG.out _ (swpb_lt ha p2 hi)
  have HAl : Hid (A < w1.heap.size) := by
    show A < _
    unfold World.cell? at hA
    rcases Nat.lt_or_ge A w1.heap.size with h | h
    · exact h
    · rw [Array.getElem?_eq_none h] at hA; cases hA
  clear hq hf2
  go_region
  go_wp2_with fail
  generalize ((w1.setCell ⟨gl, at_, none⟩ (.slice (some ⟨b (at_ + t), 0, none⟩) m m)).setCell ⟨gl, at_ + t, none⟩ (.slice (some ⟨b at_, 0, none⟩) m m)).drew = w2 at *
  clear c1 c2 c3 v3 f1 f2 hA c4
  have X0 : Hid (celL L (at_ + t) at_ ≠ 0) := P3.out
  obtain ⟨x, X⟩ : ∃ x, Hid (celL L (at_ + t) at_ = x) := ⟨_, rfl⟩
  rw [X.out] at x8 X0 HQ
  have hpF : p ≠ F := HM.out.pF
  have hgF : b (at_ + t) ≠ F := by have := (H.out.own _ p2).1; omega
  have hAF : A ≠ F := by have := HW.out; omega
  obtain ⟨g, G⟩ : ∃ g, Hid (b (at_ + t) = g) := ⟨_, rfl⟩
  rw [G.out] at HQ hgF ⊢
  have q1 := HQ.out.cA
  have q2 := HQ.out.cF
  have q3 := HQ.out.cx
  have i1 : (0 : Int) ≤ (at_ : Int) := by omega
  have i2 : (at_ : Int) < (m : Int) := by omega
  go_region_held3 (fun w' => w'.cell? ⟨A, 0, none⟩ = some (.int .i64 at_) ∧ w'.cell? ⟨p, 0, none⟩ = some (.pointer (some ⟨F, 0, none⟩)) ∧ w'.cell? ⟨g, at_, none⟩ = some (.int .u8 x)) (first | exact ⟨by assumption, by assumption, by assumption⟩ | go_keep)
    ((go_at_call 53; (with_reducible refine (inv_after F x _ HF2.out.drew X0.out x8).mono ?_); rintro e w3 ⟨rfl, k3⟩; have K3 : Hid _ := k3; have r1 := (k3.1.cell (p := ⟨A, 0, none⟩) hAF).trans q1; have r2 := (k3.1.cell (p := ⟨p, 0, none⟩) hpF).trans q2; have r3 := (k3.1.cell (p := ⟨g, at_, none⟩) hgF).trans q3; clear k3))
  go_wp2_with fail
  have e1 : swpb at_ (at_ + t) b at_ = g := by unfold swpb; rw [if_pos rfl]; exact G.out
  have eL : swpb at_ (at_ + t) L at_ = L (at_ + t) := by unfold swpb; rw [if_pos rfl]
  have ht3 : Full F w3 := K3.out.2
  have HE3 : Hid _ := (HQ.out.el.drewN 1).kept hFW K3.out.1
  have Al : A < w3.heap.size := lt_of_cell r1
  have hgA : A ≠ g := by
    have := HB.out at_ ha
    rw [e1] at this
    omega
  have hgp : p ≠ g := by
    have h1 := HM.out.pl
    have h2 := (HE3.out.own at_ ha).1
    rw [e1] at h2
    omega
  have hFg : F ≠ g := fun e => hgF e.symm
  have hb0 : Blk w3 g (L (at_ + t)) := by
    have := HE3.out.rows at_ ha
    rwa [e1, eL] at this
  have hl0 : (L (at_ + t)).length = m := by
    have := HE3.out.lens at_ ha
    rwa [eL] at this
  have i8 := GfM.inv_lt x
  obtain ⟨v, V⟩ : ∃ v, Hid (GfM.inv x = v) := ⟨_, rfl⟩
  rw [V.out] at i8 ⊢
  have HT : Hid _ := Turn.start hb0 hl0 fun j => GfM.mul ((L (at_ + t)).getD j 0) v
  have HFU : Hid _ := ht3
  have HAl3 : Hid _ := Al
  have R1 : Hid _ := r1
  have R2 : Hid _ := r2
  have EE : Hid _ := e1
  clear ht3 hb0 hl0 Al r1 r2 r3 q1 q2 q3 HAl e1 eL
  go_wp2
  go_loopw [57] (fun i wr => ∃ k : Nat, k ≤ m ∧ i = .int .i64 k ∧ ∃ u, Turn w3 g m k (L (at_ + t)) (fun j => GfM.mul ((L (at_ + t)).getD j 0) v) wr u) (fun i _ => m - (intOf i).toNat)
  case atStart => exact ⟨0, by omega, rfl, _, HT.out⟩
  case round =>
    obtain ⟨k, hk, rfl, u, hu⟩ := hrel
    by_cases hlt : k < m
    · obtain ⟨x1, X1⟩ : ∃ v, Hid ((L (at_ + t)).getD k 0 = v) := ⟨_, rfl⟩
      have gx : x1 < 256 := by rw [← X1.out]; exact small_getD HT.out.blk.small _
      have hc0 : wr.cell? ⟨p, 0, none⟩ = some (.pointer (some ⟨F, 0, none⟩)) := (hu.up.cell (p := ⟨p, 0, none⟩) (lt_of_cell R2.out) hgp).trans R2.out
      have hc1 : wr.cell? ⟨g, k, none⟩ = some (.int .u8 x1) := by rw [← X1.out, ← hu.rest k (Nat.le_refl _)]; exact hu.blk.cell _ (by rw [hu.len]; exact hlt)
      have hf1 : wr.frozen? ⟨g, k, none⟩ = false := hu.blk.froz _
      have HFR : Hid _ := HFU.out.up hu.up hFg
      have HU : Hid _ := hu
      have HV : Hid ((fun j => GfM.mul ((L (at_ + t)).getD j 0) v) k = GfM.mul x1 v) := by show GfM.mul _ _ = _; rw [X1.out]
      have g8 := GfM.mul_lt x1 v
      clear hu
      go_wp2
      go_still_tail 13, (by kernel_rfl)
      still_call (mul_full F x1 v _ HFR.out.drew gx i8)
      repeat still_step
      refine wpStill_nil ?_
      change wpList _ _ _ _ _ (wr.drewN 1)
      go_wp2
      go_roundw
      case rel => exact ⟨k + 1, by omega, by go_num, _, HU.out.next hlt HV.out g8 1⟩
      case measure => simp [intOf]; omega
    · obtain rfl : m = k := by omega
      have hs4 : Swept W F gl n m at_ A (swpb at_ (at_ + t) b) (fin m at_ (at_ + t) L) (swpb at_ (at_ + t) L) 0 (updL (swpb at_ (at_ + t) L) at_ (tab m fun j => GfM.mul ((L (at_ + t)).getD j 0) v)) wr := by
        refine ⟨HE3.out.turn ha ?_ (tab_length _ _) ?_, HFU.out.up hu.up hFg, (hu.up.cell (p := ⟨A, 0, none⟩) HAl3.out hgA).trans R1.out, Nat.lt_of_lt_of_le HAl3.out hu.up.size, fun i hi => ?_⟩
        · rw [EE.out]; exact hu.done
        · rw [EE.out]; exact hu.up
        · unfold updL
          by_cases e : i = at_
          · rw [if_pos e, if_pos (.inr e), e, fin_at, ← V.out, ← X.out]
            rfl
          · rw [if_neg e, if_neg (by omega)]
      have HS4 : Hid _ := hs4
      clear hs4 hu
      go_wp2
      go_loopw [76] (fun i wr => ∃ k : Nat, k ≤ n ∧ i = .int .i64 k ∧ ∃ L', Swept W F gl n m at_ A (swpb at_ (at_ + t) b) (fin m at_ (at_ + t) L) (swpb at_ (at_ + t) L) k L' wr) (fun i _ => n - (intOf i).toNat)
      case atStart => exact ⟨0, by omega, rfl, _, HS4.out⟩
      case round =>
        clear HS4 HT
        obtain ⟨k, hk, rfl, L', hs⟩ := hrel
        by_cases hlt : k < n
        · have hcl := hs.el.lin k hlt
          have hcA := hs.cA
          have HS5 : Hid _ := hs
          by_cases hka : k = at_
          · clear hs
            have HK : Hid _ := hka
            have hka2 : ((k : Int) == (at_ : Int)) = true := by simp [hka]
            have hka3 : ((k : Int) != (at_ : Int)) = false := by simp [hka]
            clear hka
            go_wp2
            go_roundw
            case rel => exact ⟨k + 1, by omega, by go_num, L', by have h1 := HS5.out; have h2 := HK.out; subst h2; exact h1.skip⟩
            case measure => simp [intOf]; omega
          · obtain ⟨xk, XK⟩ : ∃ v, Hid ((L' k).getD at_ 0 = v) := ⟨_, rfl⟩
            have hr := hs.el.rows k hlt
            have hx := hr.cell at_ (by rw [hs.el.lens k hlt]; omega)
            rw [XK.out] at hx
            have x8k : xk < 256 := by rw [← XK.out]; exact small_getD hr.small _
            have hra : Blk wr g (L' at_) := by have := hs.el.rows at_ ha; rwa [EE.out] at this
            have hne : swpb at_ (at_ + t) b k ≠ g := fun e => hka (hs.el.inj k at_ hlt ha (e.trans EE.out.symm))
            have hown := (hs.el.own k hlt).1
            have hMr := HM.out.up hs.el.up HM.out.pF HM.out.qF
            have hbA := HB.out k hlt
            have pl := HM.out.pl
            have HC := hid (addTo_any p q F r c (swpb at_ (at_ + t) b k) g xk m m m z (L' k) (L' at_) wr hMr hs.full hr hra (hs.el.lens k hlt) (hs.el.lens at_ ha) hm hne (by omega) (by omega) x8k)
            have HR : Hid ((tab m fun j => (L' k).getD j 0 ^^^ GfM.mul ((L' at_).getD j 0) xk) = fin m at_ (at_ + t) L k) := by
              show _ = _
              rw [← XK.out, hs.told k hlt, hs.told at_ ha, if_neg (by omega), if_pos (.inr rfl)]
              exact fin_row L hka
            have HBA : Hid (A ≠ swpb at_ (at_ + t) b k) := by show _ ≠ _; omega
            have hka2 : ((k : Int) == (at_ : Int)) = false := by simp; omega
            have hka3 : ((k : Int) != (at_ : Int)) = true := by simp; omega
            clear hs hr hra hne hown hMr hbA pl hka
            obtain ⟨bk, BK⟩ : ∃ v, Hid (swpb at_ (at_ + t) b k = v) := ⟨_, rfl⟩
            rw [BK.out] at hcl hx HC HBA
            go_wp2_with ((go_at_call 84; (with_reducible refine HC.out.mono ?_); rintro e w6 ⟨rfl, k6, u6⟩; have H6 : Hid _ := And.intro k6 u6; clear k6 u6))
            go_roundw
            case rel => exact ⟨k + 1, by omega, by go_num, _, HS5.out.next hlt hFW (by rw [BK.out]; exact HBA.out) (by rw [BK.out]; exact H6.out.1) (by rw [BK.out]; exact H6.out.2) HR.out (fin_length _ _ _ _ _)⟩
            case measure => simp [intOf]; omega
        · obtain rfl : n = k := by omega
          have HS5 : Hid _ := hs
          clear hs
          go_wp2
          go_ret
          exact ⟨rfl, _, _, HS5.out.el, HS5.out.full, fun i j hi hj => by rw [HS5.out.told i hi, if_pos (.inl hi)]; exact tab_at _ _ _ hj⟩
end Go.Proofs.Ytebglmfdchfplaa
