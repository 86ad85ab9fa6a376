/- The program's Rack in memory: its row of Bays, its disks; 'Bay', 'Size', 'Next', 'after', 'Contains' of ints. -/
import Derived.Test.YtcejdobmgbielaaRkHoldMath
import Derived.Deep.CutBlock
namespace Go.Proofs.Ytcejdobmgbielaa
open Go.RowKit
set_option linter.unusedVariables false

/-- Types of the blocks of disks and Bays. -/
def TB0 (T : TypeId) : Prop := (DD T ∧ T ≠ 82) ∨ T = 75 ∨ T = 4
/-- .. of a Rack's blocks. -/
def TR (T : TypeId) : Prop := TB0 T ∨ T = 62 ∨ T = 37
theorem loc_tr : ¬ TR 36 := by unfold TR TB0 DD; decide
theorem int_tr : ¬ TR 3 := by unfold TR TB0 DD; decide
theorem fuse_tr : ¬ TR 82 := by unfold TR TB0 DD; decide
theorem rack_tb : ¬ TB0 62 := by unfold TB0 DD; decide
theorem pbay_tb : ¬ TB0 37 := by unfold TB0 DD; decide
/-- A block of a type. -/
def Ty (w : World) (g : Nat) (C : TypeId → Prop) : Prop := ∃ (A : Array Value) (T : TypeId), w.heap[g]? = some (Obj.cells A T (0, 0)) ∧ C T
theorem Ty.ne {w : World} {g : Nat} {C : TypeId → Prop} {A : Array Value} {T : TypeId} {f : Nat × Nat} (h : Ty w g C) (e : w.heap[g]? = some (Obj.cells A T f)) (hn : ¬ C T) : False := by
  obtain ⟨A', T', e', hT⟩ := h
  rw [e'] at e
  injection e with e
  injection e with _ e _
  exact hn (e ▸ hT)
theorem Dk.ty {w : World} {m : Nat} {fu : Option Nat} {s : DS} {F : Nat → Prop} (h : Dk w m fu s F) {g : Nat} (hg : F g) : Ty w g TB0 := by
  obtain ⟨d, G, h1, h2, _, _, _, _, _, _, h3⟩ := h.ex
  rcases (h3 g).1 hg with e | e
  · obtain ⟨A, T, e1, e2, e3⟩ := h1.ty e
    exact ⟨A, T, e1, .inl ⟨e2, e3⟩⟩
  · obtain ⟨ub, k1, k2⟩ := h2
    rcases (k2 g).1 e with rfl | rfl
    · exact ⟨_, _, k1.head, .inr (.inl rfl)⟩
    · exact ⟨_, _, k1.row.heap, .inr (.inr rfl)⟩
theorem Mn.ty {w : World} {n m : Nat} {fu : Option Nat} {D : Nat → DS} {T : Nat → Prop} (h : Mn w n m fu D T) {g : Nat} (hg : T g) : Ty w g TB0 := by
  obtain ⟨F, h1, h2, h3⟩ := h.ex
  obtain ⟨i, hi, e⟩ := (h3 g).1 hg
  exact (h1 i hi).ty e
/-- The Rack's head and its row of Bays. -/
structure RKh (w : World) (r bb n cap : Nat) (D : Nat → DS) (nx : Nat) : Prop where
  head : w.heap[r]? = some (.cells #[.slice (some ⟨bb, 0, none⟩) n cap, .int .i64 (nx : Nat)] 62 (0, 0))
  blk : ∃ A, w.heap[bb]? = some (Obj.cells A 37 (0, 0)) ∧ ∀ i, i < n → A[i]? = some (.pointer (some ⟨(D i).q, 0, none⟩))
section
variable {w w' : World} {r bb n m cap nx : Nat} {fu k : Option Nat} {D : Nat → DS} {T0 : Nat → Prop}
theorem RKh.c0 (h : RKh w r bb n cap D nx) : w.cell? ⟨r, 0, none⟩ = some (.slice (some ⟨bb, 0, none⟩) n cap) := by simp [World.cell?, h.head]
theorem RKh.c1 (h : RKh w r bb n cap D nx) : w.cell? ⟨r, 1, none⟩ = some (.int .i64 (nx : Nat)) := by simp [World.cell?, h.head]
theorem RKh.f1 (h : RKh w r bb n cap D nx) : w.frozen? ⟨r, 1, none⟩ = false := by simp [World.frozen?, h.head]
theorem RKh.cell (h : RKh w r bb n cap D nx) {i : Nat} (hi : i < n) : w.cell? ⟨bb, i, none⟩ = some (.pointer (some ⟨(D i).q, 0, none⟩)) := by
  obtain ⟨A, e, h2⟩ := h.blk
  simp only [World.cell?, e]
  exact h2 i hi
theorem RKh.lt (h : RKh w r bb n cap D nx) : r < w.heap.size := (Array.getElem?_eq_some_iff.1 h.head).1
theorem RKh.ltb (h : RKh w r bb n cap D nx) : bb < w.heap.size := by
  obtain ⟨A, e, _⟩ := h.blk
  exact (Array.getElem?_eq_some_iff.1 e).1
theorem RKh.ne (h : RKh w r bb n cap D nx) : r ≠ bb := by
  obtain ⟨A, e, _⟩ := h.blk
  exact ne_type h.head e (by decide)
theorem RKh.up {S : Nat → Prop} (h : RKh w r bb n cap D nx) (u : Up S w w') (h1 : ¬ S r) (h2 : ¬ S bb) : RKh w' r bb n cap D nx := by
  obtain ⟨A, e, h3⟩ := h.blk
  exact ⟨(u.block r h.lt h1).trans h.head, A, (u.block bb h.ltb h2).trans e, h3⟩
theorem RKh.nxt (h : RKh w r bb n cap D nx) (u : Up Nul w w') : RKh w' r bb n cap D nx := h.up u (fun h => h) fun h => h
theorem RKh.congr {D' : Nat → DS} (h : RKh w r bb n cap D nx) (hq : ∀ i, i < n → (D' i).q = (D i).q) : RKh w r bb n cap D' nx := by
  obtain ⟨A, e, h3⟩ := h.blk
  exact ⟨h.head, A, e, fun i hi => by rw [hq i hi]; exact h3 i hi⟩
theorem RKh.set (h : RKh w r bb n cap D nx) (y : Nat) : RKh (w.setCell ⟨r, 1, none⟩ (.int .i64 (y : Nat))) r bb n cap D y ∧ Up (One r) w (w.setCell ⟨r, 1, none⟩ (.int .i64 (y : Nat))) := by
  have u : Up (One r) w (w.setCell ⟨r, 1, none⟩ (.int .i64 (y : Nat))) := (Up.refl (One r) w).put rfl 1 _
  obtain ⟨A, e, h3⟩ := h.blk
  refine ⟨⟨?_, A, (u.block bb h.ltb fun e => h.ne e.symm).trans e, h3⟩, u⟩
  rw [heap_setCell_same w r 1 _ _ _ h.head]
  rfl
theorem RKh.off (h : RKh w r bb n cap D nx) (hm : Mn w n m fu D T0) {g : Nat} (hg : g = r ∨ g = bb) : ¬ T0 g := by
  intro hT
  rcases hg with rfl | rfl
  · exact (hm.ty hT).ne h.head rack_tb
  · obtain ⟨A, e, _⟩ := h.blk
    exact (hm.ty hT).ne e pbay_tb
theorem RKh.nf (h : RKh w r bb n cap D nx) (hf : FzO w fu k) : ∀ f, fu = some f → ¬ (f = r ∨ f = bb) := by
  intro f e hg
  have hz := hf
  rw [e] at hz
  have e1 := Fz.heap hz
  rcases hg with rfl | rfl
  · exact ne_type h.head e1 (by decide) rfl
  · obtain ⟨A, e2, _⟩ := h.blk
    exact ne_type e2 e1 (by decide) rfl
end
/-- The program's Rack, in the blocks T. -/
structure RK (w : World) (r n m : Nat) (fu : Option Nat) (D : Nat → DS) (nx : Nat) (T : Nat → Prop) : Prop where
  ex : ∃ bb cap T0, RKh w r bb n cap D nx ∧ Mn w n m fu D T0 ∧ ∀ g, T g ↔ (g = r ∨ g = bb) ∨ T0 g
  le : 1 ≤ n ∧ n ≤ 24 ∧ m ≤ 64 ∧ 1 ≤ nx
section
variable {w w' : World} {r bb n m cap nx nx' : Nat} {fu k k' : Option Nat} {D D' : Nat → DS} {T T0 : Nat → Prop}
theorem RK.ty (h : RK w r n m fu D nx T) {g : Nat} (hg : T g) : Ty w g TR := by
  obtain ⟨bb, cap, T0, h1, h2, h3⟩ := h.ex
  rcases (h3 g).1 hg with (rfl | rfl) | e
  · exact ⟨_, _, h1.head, .inr (.inl rfl)⟩
  · obtain ⟨A, e, _⟩ := h1.blk
    exact ⟨_, _, e, .inr (.inr rfl)⟩
  · obtain ⟨A, T, e1, e2⟩ := h2.ty e
    exact ⟨A, T, e1, .inl e2⟩
theorem RK.lt (h : RK w r n m fu D nx T) (g : Nat) (hg : T g) : g < w.heap.size := by
  obtain ⟨A, T, e, _⟩ := h.ty hg
  exact (Array.getElem?_eq_some_iff.1 e).1
theorem RK.nf (h : RK w r n m fu D nx T) (hf : FzO w fu k) : ∀ f, fu = some f → ¬ T f := by
  intro f e hg
  have hz := hf
  rw [e] at hz
  exact (h.ty hg).ne (Fz.heap hz) fuse_tr
theorem RK.keep {S : Nat → Prop} (h : RK w r n m fu D nx T) (u : Up S w w') (hs : ∀ g, T g → ¬ S g) : RK w' r n m fu D nx T := by
  obtain ⟨bb, cap, T0, h1, h2, h3⟩ := h.ex
  exact ⟨⟨bb, cap, T0, h1.up u (hs _ ((h3 _).2 (.inl (.inl rfl)))) (hs _ ((h3 _).2 (.inl (.inr rfl)))), h2.up u fun g hg => hs g ((h3 g).2 (.inr hg)), h3⟩, h.le⟩
theorem RK.nxt (h : RK w r n m fu D nx T) (u : Up Nul w w') : RK w' r n m fu D nx T := h.keep u fun _ _ h => h
/-- Blocks of types that a Rack has none of turn. -/
theorem RK.type {S : Nat → Prop} (h : RK w r n m fu D nx T) (u : Up S w w') (hs : ∀ g, S g → Ty w g fun t => ¬ TR t) : RK w' r n m fu D nx T := h.keep u fun g hg hS => by
  obtain ⟨A, t, e, ht⟩ := hs g hS
  exact (h.ty hg).ne e ht
/-- The disks have changed. -/
theorem RKh.md (h1 : RKh w r bb n cap D nx) (hm : Mn w n m fu D T0) (hf : FzO w fu k) (hT : ∀ g, T g ↔ (g = r ∨ g = bb) ∨ T0 g) (hb : 1 ≤ n ∧ n ≤ 24 ∧ m ≤ 64 ∧ 1 ≤ nx) (md : Md w w' n m fu k' T0 D') (hq : ∀ i, i < n → (D' i).q = (D i).q) :
    Rd RK w w' r n m fu k' T Nul D' nx := by
  obtain ⟨T1, g1, g2⟩ := md.ex
  refine ⟨⟨fun g => (g = r ∨ g = bb) ∨ T1 g, ⟨⟨bb, cap, T1, (h1.up md.up ?_ ?_).congr hq, g1, fun _ => Iff.rfl⟩, hb⟩, fun g hg => ?_, fun g hx => hx.elim⟩, md.up.mono fun g _ hg => ?_, md.fz⟩
  · rintro (e | e)
    · exact h1.off hm (.inl rfl) e
    · exact h1.nf hf r e (.inl rfl)
  · rintro (e | e)
    · exact h1.off hm (.inr rfl) e
    · exact h1.nf hf bb e (.inr rfl)
  · rcases hg with e | e
    · exact .inl ((hT g).2 (.inl e))
    · rcases g2 g e with e | e
      · exact .inl ((hT g).2 (.inr e))
      · exact .inr e
  · rcases hg with e | e
    · exact .inl ((hT g).2 (.inr e))
    · exact .inr e
/-- The next id has. -/
theorem RK.set (h1 : RKh w r bb n cap D nx) (hm : Mn w n m fu D T0) (hf : FzO w fu k) (hT : ∀ g, T g ↔ (g = r ∨ g = bb) ∨ T0 g) (hb : 1 ≤ n ∧ n ≤ 24 ∧ m ≤ 64 ∧ 1 ≤ nx) {y : Nat} (hy : 1 ≤ y) :
    Rd RK w (w.setCell ⟨r, 1, none⟩ (.int .i64 (y : Nat))) r n m fu k T Nul D y := by
  obtain ⟨g1, u⟩ := h1.set y
  refine ⟨⟨T, ⟨⟨bb, cap, T0, g1, hm.up u fun g hg e => h1.off hm (.inl e) hg, hT⟩, hb.1, hb.2.1, hb.2.2.1, hy⟩, fun g hg => .inl hg, fun g hx => hx.elim⟩, u.mono fun g _ e => .inl ((hT g).2 (.inl (.inl e))), hf.up u fun f e e2 => h1.nf hf f e (.inl e2)⟩
theorem Up.thn {S S' : Nat → Prop} {u v w : World} (h : Up S u v) (k : Up S' v w) (hs : ∀ i, i < u.heap.size → S' i → S i) : Up S u w :=
  ⟨k.os.trans h.os, k.tape.trans h.tape, k.output.trans h.output, Nat.le_trans h.size k.size, fun i hi hn => (k.block i (Nat.lt_of_lt_of_le hi h.size) fun e => hn (hs i hi e)).trans (h.block i hi hn)⟩
/-- One call after another. -/
theorem Rd.trans {w1 w2 : World} {k2 : Option Nat} {D1 D2 : Nat → DS} {n1 n2 : Nat} (h1 : ∃ T', RK w1 r n m fu D1 n1 T' ∧ (∀ g, T' g → T g ∨ w.heap.size ≤ g)) (u1 : Up (fun g => T g ∨ fu = some g) w w1)
    (h2 : ∀ T', RK w1 r n m fu D1 n1 T' → Rd RK w1 w2 r n m fu k2 T' Nul D2 n2) : Rd RK w w2 r n m fu k2 T Nul D2 n2 := by
  obtain ⟨T', a1, a2⟩ := h1
  have d := h2 T' a1
  obtain ⟨T2, b1, b2, _⟩ := d.ex
  refine ⟨⟨T2, b1, fun g hg => ?_, fun g hx => hx.elim⟩, u1.thn d.up fun g hl hg => ?_, d.fz⟩
  · rcases b2 g hg with e | e
    · exact a2 g e
    · exact .inr (Nat.le_trans u1.size e)
  · rcases hg with e | e
    · rcases a2 g e with e | e
      · exact .inl e
      · omega
    · exact .inr e
theorem Rd.nul (h : RK w r n m fu D nx T) (hf : FzO w fu k) (u : Up Nul w w') : Rd RK w w' r n m fu k T Nul D nx :=
  ⟨⟨T, h.nxt u, fun g hg => .inl hg, fun g hx => hx.elim⟩, u.mono fun _ _ h => h.elim, hf.up u fun _ _ h => h⟩
/-- .. behind some new blocks. -/
theorem Rd.after {wa w1 w2 : World} {k1 k2 : Option Nat} {D1 D2 : Nat → DS} {n1 n2 : Nat} (ua : Up Nul w wa) (h1 : Rd RK wa w1 r n m fu k1 T Nul D1 n1) (h2 : ∀ T', RK w1 r n m fu D1 n1 T' → FzO w1 fu k1 → Rd RK w1 w2 r n m fu k2 T' Nul D2 n2) : Rd RK w w2 r n m fu k2 T Nul D2 n2 := by
  obtain ⟨T1, a1, a2, _⟩ := h1.ex
  refine Rd.trans (w1 := w1) (D1 := D1) (n1 := n1) ⟨T1, a1, fun g hg => (a2 g hg).imp id fun e => Nat.le_trans ua.size e⟩ ((ua.mono fun _ _ h => h.elim).trans h1.up) fun T' hT => ?_
  exact h2 T' hT h1.fz
theorem RK.put (h : RK w r n m fu D nx T) (hf : FzO w fu k) {y : Nat} (hy : 1 ≤ y) (q : Nat) : Rd RK w ((w.drewN q).setCell ⟨r, 1, none⟩ (.int .i64 (y : Nat))) r n m fu k T Nul D y := by
  have u : Up Nul w (w.drewN q) := (Up.refl Nul w).drewN q
  obtain ⟨bb, cap, T0, h1, h2, h3⟩ := (h.nxt u).ex
  have d := RK.set h1 h2 (hf.up u fun _ _ h => h) h3 h.le hy
  exact Rd.after u d fun T' hT hf' => Rd.nul hT hf' (Up.refl _ _)
/-! ### 'Bay', 'Size', 'Next', 'after' -/
theorem rbay_ok (h : RKh w r bb n cap D nx) {i : Nat} (hi : i < n) (hn : n ≤ 24) : Calls Try.prog 13 #[.pointer (some ⟨r, 0, none⟩), .int .i64 (i : Nat)] w fun e w' => e = .returned (.pointer (some ⟨(D i).q, 0, none⟩)) ∧ w' = w := by
  have c0 := h.c0
  have c1 := h.cell hi
  have i1 : ¬ (n : Int) ≤ (i : Int) := by omega
  have i2 : (i : Int) < (n : Int) := by omega
  clear h
  go_enter Try.func13, Try.ntmps13
  go_wp2
  go_ret
  exact ⟨rfl, rfl⟩
theorem rbay_no (h : RKh w r bb n cap D nx) (x : Int) (hx : x < 0 ∨ (n : Int) ≤ x) : Calls Try.prog 13 #[.pointer (some ⟨r, 0, none⟩), .int .i64 x] w fun e w' => e = .returned (.pointer none) ∧ w' = w := by
  have c0 := h.c0
  by_cases h0 : x < 0
  · clear h hx
    go_enter Try.func13, Try.ntmps13
    go_wp2
    go_ret
    exact ⟨rfl, rfl⟩
  · have h1 : (n : Int) ≤ x := by omega
    clear h hx
    go_enter Try.func13, Try.ntmps13
    go_wp2
    go_ret
    exact ⟨rfl, rfl⟩
theorem rnext_any (h : RKh w r bb n cap D nx) : Calls Try.prog 10 #[.pointer (some ⟨r, 0, none⟩)] w fun e w' => e = .returned (.int .i64 (nx : Nat)) ∧ w' = w := by
  have c1 := h.c1
  clear h
  go_enter Try.func10, Try.ntmps10
  go_wp2
  go_ret
  exact ⟨rfl, rfl⟩
theorem rsize_any (h : RKh w r bb n cap D nx) : Calls Try.prog 17 #[.pointer (some ⟨r, 0, none⟩)] w fun e w' => e = .returned (.int .i64 (n : Nat)) ∧ w' = w := by
  have c0 := h.c0
  clear h
  go_enter Try.func17, Try.ntmps17
  go_wp2
  go_ret
  exact ⟨rfl, rfl⟩
theorem rafter_any (x : Nat) (hx : x ≤ 2000000000) (w : World) : Calls Try.prog 36 #[.int .i64 (x : Nat)] w fun e w' => e = .returned (.int .i64 ((x + 1 : Nat) : Int)) ∧ w' = w := by
  have i1 : (x : Int) ≤ 2000000000 := by omega
  have i2 : ((x + 1 : Nat) : Int) = (x : Int) + 1 := by omega
  have i3 : ((x : Int) == 9223372036854775807) = false := by simp; omega
  rw [i2]
  clear i2 hx
  go_enter Try.func36, Try.ntmps36
  go_wp2
  go_ret
  exact ⟨rfl, rfl⟩
end
/-! ### 'Contains' of ints -/
theorem rindex_any (a : Option Addr) (L c : Nat) (f : Nat → Int) (x : Int) (w : World) (h1 : SlI w a L f) :
    Calls Try.prog 51 #[.slice a L c, .int .i64 x] w fun e w' => ∃ y : Int, e = .returned (.int .i64 y) ∧ ((∃ i, i < L ∧ f i = x) ↔ 0 ≤ y) ∧ w' = w := by
  have HC := hid h1
  have HL : Hid ((L : Int) ≤ 9223372036854775807) := by show _ ≤ _; have := h1.le; omega
  clear h1
  go_enter Try.func51, Try.ntmps51
  go_wp2_with fail
  go_loopw [8] (fun i wr => ∃ t : Nat, t ≤ L ∧ i = .int .i64 (t : Nat) ∧ (∀ j, j < t → ¬ f j = x) ∧ wr = w) (fun i _ => L - (intOf i).toNat)
  case atStart => exact ⟨0, Nat.zero_le _, rfl, fun j hj => absurd hj (Nat.not_lt_zero j), rfl⟩
  case round =>
    obtain ⟨t, ht, rfl, hno, rfl⟩ := hrel
    have HN := hid hno
    have i0 : (0 : Int) ≤ (t : Int) := by omega
    have i2 := HL.out
    clear hno
    by_cases hlt : t < L
    · have i1 : (t : Int) < (L : Int) := by omega
      obtain ⟨g, o, rfl, _, hc⟩ : ∃ g o, a = some ⟨g, o, none⟩ ∧ g < wr.heap.size ∧ ∀ i, i < L → wr.cell? ⟨g, o + i, none⟩ = some (.int .i64 (f i)) := by
        rcases HC.out.row with e | e
        · omega
        · exact e
      have k1 := hc t hlt
      have HT := hid hlt
      clear hc hlt ht
      by_cases he : x = f t
      · have HE := hid he
        have hee : (x == f t) = true := by simp [he]
        clear he
        go_wp2_with fail
        go_ret
        exact ⟨_, rfl, ⟨fun _ => by omega, fun _ => ⟨t, HT.out, HE.out.symm⟩⟩, rfl⟩
      · have HE := hid he
        have hee : (x == f t) = false := by simp [he]
        clear he
        go_wp2_with fail
        go_roundw
        case rel => exact ⟨t + 1, HT.out, by go_num, fun j hj => by
          rcases Nat.lt_or_ge j t with e | e
          · exact HN.out j e
          · obtain rfl : j = t := by omega
            exact fun e => HE.out e.symm, by first | rfl | trivial⟩
        case measure => have := HT.out; simp [intOf]; omega
    · have i1 : ¬ (t : Int) < (L : Int) := by omega
      have HT : Hid (t = L) := by show _ = _; omega
      clear hlt ht
      go_wp2_with fail
      go_ret
      exact ⟨_, rfl, ⟨fun ⟨i, hi, e⟩ => absurd e (HN.out i (by rw [HT.out]; exact hi)), fun h => by omega⟩, rfl⟩
theorem rcont_any (a : Option Addr) (L c : Nat) (f : Nat → Int) (x : Int) (w : World) (h1 : SlI w a L f) :
    Calls Try.prog 34 #[.slice a L c, .int .i64 x] w fun e w' => ∃ b : Bool, e = .returned (.bool b) ∧ (b = true ↔ ∃ i, i < L ∧ f i = x) ∧ w' = w := by
  have HI := hid (rindex_any a L c f x w h1)
  clear h1
  go_enter Try.func34, Try.ntmps34
  go_wp2_with fail
  refine HI.out.mono ?_
  rintro e w1 ⟨y, rfl, hy, rfl⟩
  have HY := hid hy
  clear hy
  go_wp2
  go_ret
  refine ⟨_, rfl, ?_, rfl⟩
  rw [HY.out, decide_eq_true_iff]
end Go.Proofs.Ytcejdobmgbielaa
