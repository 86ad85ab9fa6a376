/- The program's 'New' of a Rack. -/
import Derived.Test.YtcejdobmgbielaaRkRack
namespace Go.Proofs.Ytcejdobmgbielaa
open Go.RowKit
set_option linter.unusedVariables false

theorem rout_no (x y : Int) (w : World) (h : 1 ≤ x ∧ x ≤ y) : Calls Try.prog 26 #[.int .i64 x, .int .i64 y] w fun e w' => e = .returned (.bool false) ∧ w' = w := by
  have i1 : ¬ x < 1 := by omega
  have i2 : ¬ y < x := by omega
  clear h
  go_enter Try.func26, Try.ntmps26
  go_wp2
  go_ret
  exact ⟨rfl, rfl⟩
theorem rout_yes (x y : Int) (w : World) (h : x < 1 ∨ y < x) : Calls Try.prog 26 #[.int .i64 x, .int .i64 y] w fun e w' => e = .returned (.bool true) ∧ w' = w := by
  by_cases i1 : x < 1
  · clear h
    go_enter Try.func26, Try.ntmps26
    go_wp2
    go_ret
    exact ⟨rfl, rfl⟩
  · have i2 : y < x := by omega
    clear h
    go_enter Try.func26, Try.ntmps26
    go_wp2
    go_ret
    exact ⟨rfl, rfl⟩
theorem rnew_bad {w : World} {x y : Int} {fu : Option Nat} (h : x < 1 ∨ 24 < x ∨ y < 1 ∨ 64 < y) : Calls Try.prog 7 #[.int .i64 x, .int .i64 y, .pointer (fp fu)] w fun e w' => e = .returned (.tuple #[.pointer none, .int .i64 1]) ∧ Up Nul w w' := by
  by_cases h1 : x < 1 ∨ 24 < x
  · have HO := hid (rout_yes x 24 w h1)
    clear h h1
    go_enter Try.func7, Try.ntmps7
    go_wp2_with fail
    refine HO.out.mono ?_
    rintro e w1 ⟨rfl, rfl⟩
    go_wp2_with fail
    go_ret2
    exact ⟨rfl, Up.refl _ _⟩
  · have HO := hid (rout_no x 24 w (by omega))
    have HP := hid (rout_yes y 64 w (by omega))
    clear h h1
    go_enter Try.func7, Try.ntmps7
    go_wp2_with fail
    refine HO.out.mono ?_
    rintro e w1 ⟨rfl, rfl⟩
    go_wp2_with fail
    refine HP.out.mono ?_
    rintro e w1 ⟨rfl, rfl⟩
    go_wp2_with fail
    go_ret2
    exact ⟨rfl, Up.refl _ _⟩
/-- An append whose run is known. -/
theorem wp_append_eqv {w w' : World} {o : Oper} {a : Act} {K : Act → World → Prop} {Q : Exit → Act → World → Prop} (s x : Operand) (t : TypeId)
    (ho : o.op = .call { callee := .builtin .append, args := #[s, x], argTypes := #[t, t] }) (v y v' : Value) (hs : a.eval s = v) (hx : a.eval x = y) (hrun : (Builtin.append_ #[t, t] o.type #[v, y]).run Try.prog w = .ok v' w') (h : K (a.put o.dst v') w') : Oper.wp Try.prog o a w K Q := by
  unfold Oper.wp
  simp [execOp, ho, resolve, invoke, builtin, hs, hx, hrun, Result.andThen]
  exact h
/-! ### A Rack in the making -/
def bayV (D : Nat → DS) (t : Nat) : List Value := (List.range t).map fun i => .pointer (some ⟨(D i).q, 0, none⟩)
theorem bayV_next (D : Nat → DS) (t : Nat) (s : DS) : bayV (updD D t s) (t + 1) = bayV D t ++ [.pointer (some ⟨s.q, 0, none⟩)] := by
  unfold bayV
  rw [List.range_succ, List.map_append]
  congr 1
  · apply List.map_congr_left
    intro i hi
    rw [updD_other D s (by have := List.mem_range.1 hi; omega)]
  · simp only [List.map_cons, List.map_nil, updD_same]
theorem info_bay : (Try.prog.info? 37).map (fun i => (i.zero, i.size, i.bytes)) = some (some (.pointer none), 1, 8) := by kernel_rfl
/-- append(r.bays, one). -/
theorem run_append_bay (w : World) (ty : TypeId) (v : Value) (n : Nat) (xs : List Value) (hown : w.ownsRow 0 37 1 v n xs) (bk : Nat) (x : Addr) (hb : w.heap[bk]? = some (.cells #[.pointer (some x)] 37 (0, 0))) (hl : n ≤ 900000) :
    ∃ v' w', (Builtin.append_ #[60, 60] ty #[v, .slice (some ⟨bk, 0, none⟩) 1 1]).run Try.prog w = .ok v' w' ∧ w'.ownsRow 0 37 1 v' (n + 1) (xs ++ [.pointer (some x)]) ∧ w.grownBy w' v.ownBlock ∧ (v'.ownBlock = v.ownBlock ∨ v'.ownBlock = some w.heap.size) := by
  obtain ⟨i0, hi, hz, hz1, hz2⟩ := info_parts info_bay
  have hnews : ∀ (j : Nat) (u : Value), [Value.pointer (some x)][j]? = some u → w.cell? (Addr.add ⟨bk, 0, none⟩ j) = some u := fun j u hj => by
    rw [add_off, Nat.zero_add]
    simp only [World.cell?, hb]
    simpa using hj
  have h1 : ∀ u ∈ [Value.pointer (some x)], u.oneCell' = true := fun u hu => by
    obtain rfl : u = .pointer (some x) := by simpa using hu
    rfl
  obtain ⟨v', w', hrun, g1, g2, _⟩ := run_append_own (P := Try.prog) w 0 60 ty 37 i0 _ 1 8 Try.underlying60 hi hz hz1 hz2 rfl (by decide) v n _ hown ⟨bk, 0, none⟩ 1 1 [.pointer (some x)] rfl hnews h1 (by unfold maxLen; omega) (by omega) (Nat.zero_le _)
  exact ⟨v', w', hrun, g1, g2, append_where_m w w' v v' _ _ _ i0 _ 0 n 1 _ Try.underlying60 hi hz (by rw [hz1]; exact hown) ⟨bk, 0, none⟩ 1 [.pointer (some x)] (by decide) (by rw [hz1]; rfl) hnews h1 (by omega) (by rw [hz2]; omega) hrun⟩
/-- A block of another type than a row's. -/
theorem ne_ownR {w : World} {b g n sz : Nat} {A : Array Value} {S T : TypeId} {v : Value} {xs : List Value} (h : w.heap[b]? = some (.cells A S (0, 0))) (k : w.ownsRow 0 T sz v n xs) (hst : S ≠ T) (hg : v.ownBlock = some g) : g ≠ b := by
  rcases k.2 with ⟨e, _⟩ | ⟨g', cap, cur, e, _, e2, _⟩
  · rw [e] at hg; cases hg
  · rw [e] at hg
    obtain rfl : g' = g := by simpa [Value.ownBlock] using hg
    exact ne_type e2 h (fun e => hst e.symm)
/-- t disks are made: the Rack at r, its row at sa. -/
structure RKn (w0 w : World) (r : Nat) (sa : Option Addr) (t sc m : Nat) (fu k : Option Nat) (D : Nat → DS) (T0 : Nat → Prop) : Prop where
  head : w.heap[r]? = some (.cells #[.slice sa t sc, .int .i64 1] 62 (0, 0))
  own : w.ownsRow 0 37 1 (.slice sa t sc) t (bayV D t)
  mn : Mn w t m fu D T0
  fz : FzO w fu k
  new : ∀ i, i < t → (D i).U = (fun _ => false) ∧ (D i).live = true ∧ (D i).R = (fun _ => zer 96) ∧ (D i).ps = []
  r0 : w0.heap.size ≤ r
  s0 : ∀ g, (Value.slice sa t sc).ownBlock = some g → w0.heap.size ≤ g
  t0 : ∀ g, T0 g → w0.heap.size ≤ g
  up : Up Nul w0 w
section
variable {w0 w w' : World} {r t sc m : Nat} {sa : Option Addr} {fu k : Option Nat} {D : Nat → DS} {T0 : Nat → Prop}
theorem RKn.lt (h : RKn w0 w r sa t sc m fu k D T0) : r < w.heap.size := (Array.getElem?_eq_some_iff.1 h.head).1
theorem RKn.c0 (h : RKn w0 w r sa t sc m fu k D T0) : w.cell? ⟨r, 0, none⟩ = some (.slice sa t sc) := by simp [World.cell?, h.head]
theorem RKn.f0 (h : RKn w0 w r sa t sc m fu k D T0) : w.frozen? ⟨r, 0, none⟩ = false := by simp [World.frozen?, h.head]
/-- One disk more. -/
theorem RKn.more {w2 : World} {s : DS} {F : Nat → Prop} (h : RKn w0 w r sa t sc m fu k D T0) (ht : t ≤ 24) (u : Up Nul w w2) (hd : Dk w2 m fu s F) (hF : ∀ g, F g → w.heap.size ≤ g)
    (hs : s.U = (fun _ => false) ∧ s.live = true ∧ s.R = (fun _ => zer 96) ∧ s.ps = []) (bk : Nat) (hbk : w2.heap[bk]? = some (.cells #[.pointer (some ⟨s.q, 0, none⟩)] 37 (0, 0))) :
    ∃ sa2 sc2 w3 D2 T2, (Builtin.append_ #[60, 60] 60 #[.slice sa t sc, .slice (some ⟨bk, 0, none⟩) 1 1]).run Try.prog w2 = .ok (.slice sa2 (t + 1) sc2) w3 ∧
      w3.cell? ⟨r, 0, none⟩ = some (.slice sa t sc) ∧ w3.frozen? ⟨r, 0, none⟩ = false ∧ RKn w0 (w3.setCell ⟨r, 0, none⟩ (.slice sa2 (t + 1) sc2)) r sa2 (t + 1) sc2 m fu k D2 T2 := by
  obtain ⟨v2, w3, hap, o2, gr, wh⟩ := run_append_bay w2 60 (.slice sa t sc) t _ (own_up h.own u fun _ _ => id) bk _ hbk (by omega)
  have u2 : Up (fun k => (Value.slice sa t sc).ownBlock = some k) w2 w3 := ⟨gr.os, gr.tape, gr.output, gr.size, fun k hk hn => gr.block k hk fun e => hn e.symm⟩
  have hml := h.lt
  have hmn : ¬ (Value.slice sa t sc).ownBlock = some r := fun e => ne_ownR h.head h.own (by decide) e rfl
  have hh2 := (u.block r hml id).trans h.head
  have hh3 := (u2.block r (Nat.lt_of_lt_of_le hml u.size) hmn).trans hh2
  have hm2 : Mn w2 (t + 1) m fu (updD D t s) (fun g => T0 g ∨ F g) := (h.mn.up u fun _ _ => id).more hd fun g hg e => by have := hF g hg; have := h.mn.lt e; omega
  rcases o2.2 with ⟨_, e⟩ | ⟨g, cap, cur, rfl, hbg, hg, hrest⟩
  · omega
  · have hgr : ¬ g = r := fun e => ne_type hh3 hg (by decide) e.symm
    have hrow : ∀ b, (Value.slice sa t sc).ownBlock = some b → ∃ A, w2.heap[b]? = some (.cells A 37 (0, 0)) := fun b e => by
      rcases (own_up h.own u fun _ _ => id).2 with ⟨e1, _⟩ | ⟨g1, cap1, cur1, e1, _, hg1, _⟩
      · rw [e1] at e; cases e
      · rw [e1] at e
        injection e with e
        have e : g1 = b := e
        exact ⟨cur1, e ▸ hg1⟩
    have hm3 : Mn w3 (t + 1) m fu (updD D t s) (fun g => T0 g ∨ F g) := hm2.up u2 fun b hb e => by
      obtain ⟨A, eA⟩ := hrow b e
      exact (hm2.ty hb).ne eA pbay_tb
    have fz3 : FzO w3 fu k := (h.fz.up u fun _ _ => id).up u2 fun f e e2 => by
      obtain ⟨A, eA⟩ := hrow f e2
      have hz := h.fz.up u fun _ _ => id
      rw [e] at hz
      exact ne_type (Fz.heap hz) eA (by decide) rfl
    have u4 := (Up.refl (One r) w3).put rfl 0 (.slice (some ⟨g, 0, none⟩) (t + 1) cap)
    have hsz2 := u.size
    have hsz3 := u2.size
    refine ⟨some ⟨g, 0, none⟩, cap, w3, updD D t s, fun g => T0 g ∨ F g, hap, by simp [World.cell?, hh3], by simp [World.frozen?, hh3], ?_, ?_, hm3.up u4 fun b hb e => ?_, fz3.up u4 fun f e e2 => ?_, fun i hi => ?_, h.r0, fun b hb => ?_, fun b hb => ?_, ?_⟩
    · rw [heap_setCell_same w3 r 0 _ _ _ hh3]
      rfl
    · rw [bayV_next]
      refine ⟨o2.1, .inr ⟨g, cap, cur, rfl, hbg, ?_, hrest⟩⟩
      rw [u4.block g (Array.getElem?_eq_some_iff.1 hg).1 hgr]
      exact hg
    · obtain rfl : b = r := e
      exact (hm3.ty hb).ne hh3 rack_tb
    · obtain rfl : f = r := e2
      rw [e] at fz3
      exact ne_type hh3 (Fz.heap fz3) (by decide) rfl
    · by_cases e : i = t
      · rw [e, updD_same]; exact hs
      · rw [updD_other D s e]; exact h.new i (by omega)
    · rcases wh with wh | wh
      · exact h.s0 b (wh ▸ hb)
      · rw [wh] at hb
        injection hb with hb
        have := h.up.size
        omega
    · rcases hb with e | e
      · exact h.t0 b e
      · have := hF b e; have := h.up.size; omega
    · exact ((h.up.trans u).newer u2 fun i hi e => by have := h.s0 i e; omega).newer u4 fun i hi e => by
        have e : i = r := e
        have := h.r0
        omega
end
set_option maxRecDepth 100000 in
set_option maxHeartbeats 3200000 in
theorem rnew_good {w : World} {n m : Nat} {fu k : Option Nat} (h1 : 1 ≤ n) (h2 : n ≤ 24) (h3 : 1 ≤ m) (h4 : m ≤ 64) (hf : FzO w fu k) : Calls Try.prog 7 #[.int .i64 (n : Nat), .int .i64 (m : Nat), .pointer (fp fu)] w fun e w' =>
    ∃ r D T, e = .returned (.tuple #[.pointer (some ⟨r, 0, none⟩), .int .i64 0]) ∧ RK w' r n m fu D 1 T ∧ (∀ i, i < n → (D i).U = (fun _ => false) ∧ (D i).live = true ∧ (D i).R = (fun _ => zer 96) ∧ (D i).ps = []) ∧ Up Nul w w' ∧ ∀ g, T g → w.heap.size ≤ g := by
  have HO := hid (rout_no n 24 w (by omega))
  have HP := hid (rout_no m 64 w (by omega))
  have HDK : Hid (∀ W, Calls Try.prog 28 #[.int .i64 (m : Nat), .pointer (fp fu)] W _) := fun W => dk_new m fu W h4
  obtain ⟨D0, _⟩ : ∃ D : Nat → DS, True := ⟨fun _ => ⟨0, 0, fun _ => false, true, fun _ => [], []⟩, trivial⟩
  have H0 : Hid (RKn w (w.alloc (.cells #[.slice none 0 0, .int .i64 1] 62)) w.heap.size none 0 0 m fu k D0 Nul) :=
    ⟨heap_alloc_new _ _, World.ownsRow_nil _ _ _ _, Mn.none _ _ _ _, hf.up ((Up.refl Nul w).alloc _) fun _ _ => id, fun i hi => absurd hi (Nat.not_lt_zero i), Nat.le_refl _, (fun g hg => by cases hg), fun g hg => False.elim hg, (Up.refl Nul w).alloc _⟩
  obtain ⟨r, R⟩ : ∃ r, Hid (w.heap.size = r) := ⟨_, rfl⟩
  rw [R.out] at H0
  have HN : Hid (1 ≤ n ∧ n ≤ 24 ∧ m ≤ 64) := ⟨h1, h2, h4⟩
  clear h1 h2 h3 h4 hf
  go_enter Try.func7, Try.ntmps7
  go_wp2_with fail
  refine HO.out.mono ?_
  rintro e w1 ⟨rfl, rfl⟩
  go_wp2_with fail
  refine HP.out.mono ?_
  rintro e w1 ⟨rfl, rfl⟩
  go_wp2_with fail
  rw [R.out]
  generalize hW2 : World.alloc _ (.cells #[.slice none 0 0, .int .i64 1] 62) = w2 at H0 ⊢
  go_loopw [21] (fun i wr => ∃ t : Nat, t ≤ n ∧ i = .int .i64 (t : Nat) ∧ ∃ sa sc D T0, RKn w1 wr r sa t sc m fu k D T0) (fun i _ => n - (intOf i).toNat)
  case atStart => exact ⟨0, Nat.zero_le _, rfl, none, 0, D0, Nul, H0.out⟩
  case round =>
    obtain ⟨t, ht, rfl, sa, sc, D, T0, hm⟩ := hrel
    have HM := hid hm
    clear hm
    by_cases hlt : t < n
    · have i1 : (t : Int) < (n : Int) := by omega
      have i2 : (n : Int) ≤ 24 := by have := HN.out; omega
      have HT : Hid (t + 1 ≤ n ∧ t ≤ 24) := ⟨by omega, by have := HN.out; omega⟩
      have y0 := HM.out.c0
      have HC : Hid (∀ W, Up Nul wr W → W.cell? ⟨r, 0, none⟩ = some (.slice sa t sc)) := fun W u => (u.cell (p := ⟨r, 0, none⟩) HM.out.lt id).trans HM.out.c0
      have HUD : Hid (Up Nul wr wr.drew) := (Up.refl _ _).drew
      clear hlt ht
      go_wp2_with fail
      refine wp_region_held_drew (S := fun _ => True) (by kernel_rfl) (by exact trivial) (fun hHeld => ?_)
      refine wpAnyH_take (i := 0) (oi := ⟨some 23, _, _, _, _, _⟩) (v := ?vn0) rfl (by kernel_rfl) (by kernel_rfl) (by kernel_rfl) (fun _ _ _ h => h) (Or.inl ⟨by rfl, ?yn0⟩) (by assumption) ?rn0
      case yn0 => (intro w hSw; (try dsimp only at hSw); go_simp; try with_reducible rfl)
      try simp only [Act.put, List.setIfInBounds_toArray, List.set_cons_zero, List.set_cons_succ]
      refine wpAnyH_take (i := 1) (oi := ⟨some 24, _, _, _, _, _⟩) (v := ?vn1) rfl (by kernel_rfl) (by kernel_rfl) (by kernel_rfl) (fun _ _ _ h => h) (Or.inl ⟨by rfl, ?yn1⟩) (by assumption) ?rn1
      case yn1 => (intro w hSw; (try dsimp only at hSw); go_simp; try with_reducible rfl)
      try simp only [Act.put, List.setIfInBounds_toArray, List.set_cons_zero, List.set_cons_succ]
      refine wpAnyH_take (i := 2) (oi := ⟨some 25, _, _, _, _, _⟩) (v := ?vn2) rfl (by kernel_rfl) (by kernel_rfl) (by kernel_rfl) (fun _ _ _ h => h) (Or.inl ⟨by rfl, ?yn2⟩) (by assumption) ?rn2
      case yn2 => (intro w hSw; (try dsimp only at hSw); go_simp; try with_reducible rfl)
      try simp only [Act.put, List.setIfInBounds_toArray, List.set_cons_zero, List.set_cons_succ]
      refine wpAnyH_take (i := 3) (oi := ⟨some 26, _, _, _, _, _⟩) (v := ?vn3) rfl (by kernel_rfl) (by kernel_rfl) (by kernel_rfl) (fun _ _ _ h => h) (Or.inl ⟨by rfl, ?yn3⟩) (by assumption) ?rn3
      case yn3 => (intro w hSw; (try dsimp only at hSw); go_simp; try with_reducible rfl)
      try simp only [Act.put, List.setIfInBounds_toArray, List.set_cons_zero, List.set_cons_succ]
      refine wpAnyH_take (i := 5) (oi := ⟨some 28, _, _, _, _, _⟩) (v := ?vn5) rfl (by kernel_rfl) (by kernel_rfl) (by kernel_rfl) (fun _ _ _ h => h) (Or.inl ⟨by rfl, ?yn5⟩) (by assumption) ?rn5
      case yn5 => (intro w hSw; (try dsimp only at hSw); go_simp; try with_reducible rfl)
      try simp only [Act.put, List.setIfInBounds_toArray, List.set_cons_zero, List.set_cons_succ]
      refine wpAnyH_take (i := 6) (oi := ⟨some 29, _, _, _, _, _⟩) (v := ?vn6) rfl (by kernel_rfl) (by kernel_rfl) (by kernel_rfl) (fun _ _ _ h => h) (Or.inl ⟨by rfl, ?yn6⟩) (by assumption) ?rn6
      case yn6 => (intro w hSw; (try dsimp only at hSw); go_simp; try with_reducible rfl)
      try simp only [Act.put, List.setIfInBounds_toArray, List.set_cons_zero, List.set_cons_succ]
      refine wpAnyH_ready (rs := [4, 7]) (by kernel_rfl) (by simp) ?_
      refine (AllReadyH.cons (o := ⟨some 27, _, _, _, _, _⟩) rfl (fun K hK => ?_) (AllReadyH.cons (o := ⟨some 30, _, _, _, _, _⟩) rfl (fun K hK => ?_) AllReadyH.nil))
      · go_simp
        refine hK.out _ _ ?kla (fun hHeld => ?_)
        case kla => trivial
        clear hK K
        try simp only [Act.put, List.setIfInBounds_toArray, List.set_cons_zero, List.set_cons_succ]
        refine wpAnyH_ready (rs := [7]) (by kernel_rfl) (by simp) ?_
        refine (AllReadyH.cons (o := ⟨some 30, _, _, _, _, _⟩) rfl (fun K hK => ?_) AllReadyH.nil)
        go_simp
        refine (HDK.out _).mono ?_
        rintro e wa ⟨b, rfl, ka, hb⟩
        have HB := hid hb
        have oa : Hid (Up Nul wr wa) := HUD.out.trans ka
        clear ka hb
        have ya := HC.out wa oa.out
        refine hK.out _ _ ?kca (fun hHeld => ?_)
        case kca => trivial
        clear hK K
        try simp only [Act.put, List.setIfInBounds_toArray, List.set_cons_zero, List.set_cons_succ]
        refine wpAnyH_ready (rs := [8]) (by kernel_rfl) (by simp) ?_
        refine (AllReadyH.cons (o := ⟨some 31, _, _, _, _, _⟩) rfl (fun K hK => ?_) AllReadyH.nil)
        go_simp
        refine HB.out.mono ?_
        rintro e wb ⟨q, F, rfl, hd, kb, hF⟩
        have HD2 := hid hd
        have HF2 : Hid (∀ g, F g → wr.heap.size ≤ g) := hF
        have ob : Hid (Up Nul wr wb) := oa.out.trans kb
        clear kb hd hF HB
        have yb := HC.out wb ob.out
        refine hK.out _ _ ?kda (fun hHeld => ?_)
        case kda => trivial
        clear hK K
        try simp only [Act.put, List.setIfInBounds_toArray, List.set_cons_zero, List.set_cons_succ]
        refine wpAnyH_ready (rs := [9]) (by kernel_rfl) (by simp) ?_
        refine (AllReadyH.cons (o := ⟨some 32, _, _, _, _, _⟩) rfl (fun K hK => ?_) AllReadyH.nil)
        go_simp
        refine hK.out _ _ ?kma (fun hHeld => ?_)
        case kma => trivial
        clear hK K
        try simp only [Act.put, List.setIfInBounds_toArray, List.set_cons_zero, List.set_cons_succ]
        obtain ⟨sa2, sc2, w3, D2, T2, hap, x3, x4, h4⟩ := HM.out.more HT.out.2 (ob.out.alloc (.cells #[.pointer (some ⟨q, 0, none⟩)] 37)) (HD2.out.up ((Up.refl Nul wb).alloc _) fun _ _ => id) HF2.out ⟨rfl, rfl, rfl, rfl⟩ wb.heap.size (heap_alloc_new _ _)
        have H4 := hid h4
        clear h4
        refine wpAnyH_ready (rs := [10]) (by kernel_rfl) (by simp) ?_
        refine (AllReadyH.cons (o := ⟨some 33, _, _, _, _, _⟩) rfl (fun K hK => ?_) AllReadyH.nil)
        refine wp_append_eqv _ _ 60 rfl (.slice sa t sc) _ (.slice sa2 (t + 1) sc2) rfl rfl hap ?_
        refine hK.out _ _ ?kap (fun hHeld => ?_)
        case kap => trivial
        clear hK K
        try simp only [Act.put, List.setIfInBounds_toArray, List.set_cons_zero, List.set_cons_succ]
        refine wpAnyH_take (i := 11) (oi := ⟨some 34, _, _, _, _, _⟩) (v := ?vn11a) rfl (by kernel_rfl) (by kernel_rfl) (by kernel_rfl) (fun _ _ _ h => h) (Or.inl ⟨by rfl, ?yn11a⟩) (by assumption) ?rn11a
        case yn11a => (intro w hSw; (try dsimp only at hSw); go_simp; try with_reducible rfl)
        try simp only [Act.put, List.setIfInBounds_toArray, List.set_cons_zero, List.set_cons_succ]
        refine wpAnyH_take (i := 12) (oi := ⟨some 35, _, _, _, _, _⟩) (v := ?vn12a) rfl (by kernel_rfl) (by kernel_rfl) (by kernel_rfl) (fun _ _ _ h => h) (Or.inl ⟨by rfl, ?yn12a⟩) (by assumption) ?rn12a
        case yn12a => (intro w hSw; (try dsimp only at hSw); go_simp; try with_reducible rfl)
        try simp only [Act.put, List.setIfInBounds_toArray, List.set_cons_zero, List.set_cons_succ]
        refine wpAnyH_ready (rs := [13]) (by kernel_rfl) (by simp) ?_
        refine (AllReadyH.cons (o := ⟨none, _, _, _, _, _⟩) rfl (fun K hK => ?_) AllReadyH.nil)
        go_simp
        refine hK.out _ _ ?kas (fun hHeld => ?_)
        case kas => trivial
        clear hK K
        try simp only [Act.put, List.setIfInBounds_toArray, List.set_cons_zero, List.set_cons_succ]
        refine wpAnyH_done (by kernel_rfl) ?_ _
        clear HC hap
        go_wp2
        go_roundw
        case rel => exact ⟨t + 1, HT.out.1, by go_num, _, _, _, _, H4.out⟩
        case measure => simp only [intOf]; have := HT.out; omega
      · go_simp
        refine (HDK.out _).mono ?_
        rintro e wa ⟨b, rfl, ka, hb⟩
        have HB := hid hb
        have oa : Hid (Up Nul wr wa) := HUD.out.trans ka
        clear ka hb
        have ya := HC.out wa oa.out
        refine hK.out _ _ ?kcb (fun hHeld => ?_)
        case kcb => trivial
        clear hK K
        try simp only [Act.put, List.setIfInBounds_toArray, List.set_cons_zero, List.set_cons_succ]
        refine wpAnyH_ready (rs := [4, 8]) (by kernel_rfl) (by simp) ?_
        refine (AllReadyH.cons (o := ⟨some 27, _, _, _, _, _⟩) rfl (fun K hK => ?_) (AllReadyH.cons (o := ⟨some 31, _, _, _, _, _⟩) rfl (fun K hK => ?_) AllReadyH.nil))
        · go_simp
          refine hK.out _ _ ?klb (fun hHeld => ?_)
          case klb => trivial
          clear hK K
          try simp only [Act.put, List.setIfInBounds_toArray, List.set_cons_zero, List.set_cons_succ]
          refine wpAnyH_ready (rs := [8]) (by kernel_rfl) (by simp) ?_
          refine (AllReadyH.cons (o := ⟨some 31, _, _, _, _, _⟩) rfl (fun K hK => ?_) AllReadyH.nil)
          go_simp
          refine HB.out.mono ?_
          rintro e wb ⟨q, F, rfl, hd, kb, hF⟩
          have HD2 := hid hd
          have HF2 : Hid (∀ g, F g → wr.heap.size ≤ g) := hF
          have ob : Hid (Up Nul wr wb) := oa.out.trans kb
          clear kb hd hF HB
          have yb := HC.out wb ob.out
          refine hK.out _ _ ?kdb (fun hHeld => ?_)
          case kdb => trivial
          clear hK K
          try simp only [Act.put, List.setIfInBounds_toArray, List.set_cons_zero, List.set_cons_succ]
          refine wpAnyH_ready (rs := [9]) (by kernel_rfl) (by simp) ?_
          refine (AllReadyH.cons (o := ⟨some 32, _, _, _, _, _⟩) rfl (fun K hK => ?_) AllReadyH.nil)
          go_simp
          refine hK.out _ _ ?kmb (fun hHeld => ?_)
          case kmb => trivial
          clear hK K
          try simp only [Act.put, List.setIfInBounds_toArray, List.set_cons_zero, List.set_cons_succ]
          obtain ⟨sa2, sc2, w3, D2, T2, hap, x3, x4, h4⟩ := HM.out.more HT.out.2 (ob.out.alloc (.cells #[.pointer (some ⟨q, 0, none⟩)] 37)) (HD2.out.up ((Up.refl Nul wb).alloc _) fun _ _ => id) HF2.out ⟨rfl, rfl, rfl, rfl⟩ wb.heap.size (heap_alloc_new _ _)
          have H4 := hid h4
          clear h4
          refine wpAnyH_ready (rs := [10]) (by kernel_rfl) (by simp) ?_
          refine (AllReadyH.cons (o := ⟨some 33, _, _, _, _, _⟩) rfl (fun K hK => ?_) AllReadyH.nil)
          refine wp_append_eqv _ _ 60 rfl (.slice sa t sc) _ (.slice sa2 (t + 1) sc2) rfl rfl hap ?_
          refine hK.out _ _ ?kbp (fun hHeld => ?_)
          case kbp => trivial
          clear hK K
          try simp only [Act.put, List.setIfInBounds_toArray, List.set_cons_zero, List.set_cons_succ]
          refine wpAnyH_take (i := 11) (oi := ⟨some 34, _, _, _, _, _⟩) (v := ?vn11b) rfl (by kernel_rfl) (by kernel_rfl) (by kernel_rfl) (fun _ _ _ h => h) (Or.inl ⟨by rfl, ?yn11b⟩) (by assumption) ?rn11b
          case yn11b => (intro w hSw; (try dsimp only at hSw); go_simp; try with_reducible rfl)
          try simp only [Act.put, List.setIfInBounds_toArray, List.set_cons_zero, List.set_cons_succ]
          refine wpAnyH_take (i := 12) (oi := ⟨some 35, _, _, _, _, _⟩) (v := ?vn12b) rfl (by kernel_rfl) (by kernel_rfl) (by kernel_rfl) (fun _ _ _ h => h) (Or.inl ⟨by rfl, ?yn12b⟩) (by assumption) ?rn12b
          case yn12b => (intro w hSw; (try dsimp only at hSw); go_simp; try with_reducible rfl)
          try simp only [Act.put, List.setIfInBounds_toArray, List.set_cons_zero, List.set_cons_succ]
          refine wpAnyH_ready (rs := [13]) (by kernel_rfl) (by simp) ?_
          refine (AllReadyH.cons (o := ⟨none, _, _, _, _, _⟩) rfl (fun K hK => ?_) AllReadyH.nil)
          go_simp
          refine hK.out _ _ ?kbs (fun hHeld => ?_)
          case kbs => trivial
          clear hK K
          try simp only [Act.put, List.setIfInBounds_toArray, List.set_cons_zero, List.set_cons_succ]
          refine wpAnyH_done (by kernel_rfl) ?_ _
          clear HC hap
          go_wp2
          go_roundw
          case rel => exact ⟨t + 1, HT.out.1, by go_num, _, _, _, _, H4.out⟩
          case measure => simp only [intOf]; have := HT.out; omega
        · go_simp
          refine HB.out.mono ?_
          rintro e wb ⟨q, F, rfl, hd, kb, hF⟩
          have HD2 := hid hd
          have HF2 : Hid (∀ g, F g → wr.heap.size ≤ g) := hF
          have ob : Hid (Up Nul wr wb) := oa.out.trans kb
          clear kb hd hF HB
          have yb := HC.out wb ob.out
          refine hK.out _ _ ?kdc (fun hHeld => ?_)
          case kdc => trivial
          clear hK K
          try simp only [Act.put, List.setIfInBounds_toArray, List.set_cons_zero, List.set_cons_succ]
          refine wpAnyH_ready (rs := [4, 9]) (by kernel_rfl) (by simp) ?_
          refine (AllReadyH.cons (o := ⟨some 27, _, _, _, _, _⟩) rfl (fun K hK => ?_) (AllReadyH.cons (o := ⟨some 32, _, _, _, _, _⟩) rfl (fun K hK => ?_) AllReadyH.nil))
          · go_simp
            refine hK.out _ _ ?klc (fun hHeld => ?_)
            case klc => trivial
            clear hK K
            try simp only [Act.put, List.setIfInBounds_toArray, List.set_cons_zero, List.set_cons_succ]
            refine wpAnyH_ready (rs := [9]) (by kernel_rfl) (by simp) ?_
            refine (AllReadyH.cons (o := ⟨some 32, _, _, _, _, _⟩) rfl (fun K hK => ?_) AllReadyH.nil)
            go_simp
            refine hK.out _ _ ?kmc (fun hHeld => ?_)
            case kmc => trivial
            clear hK K
            try simp only [Act.put, List.setIfInBounds_toArray, List.set_cons_zero, List.set_cons_succ]
            obtain ⟨sa2, sc2, w3, D2, T2, hap, x3, x4, h4⟩ := HM.out.more HT.out.2 (ob.out.alloc (.cells #[.pointer (some ⟨q, 0, none⟩)] 37)) (HD2.out.up ((Up.refl Nul wb).alloc _) fun _ _ => id) HF2.out ⟨rfl, rfl, rfl, rfl⟩ wb.heap.size (heap_alloc_new _ _)
            have H4 := hid h4
            clear h4
            refine wpAnyH_ready (rs := [10]) (by kernel_rfl) (by simp) ?_
            refine (AllReadyH.cons (o := ⟨some 33, _, _, _, _, _⟩) rfl (fun K hK => ?_) AllReadyH.nil)
            refine wp_append_eqv _ _ 60 rfl (.slice sa t sc) _ (.slice sa2 (t + 1) sc2) rfl rfl hap ?_
            refine hK.out _ _ ?kcp (fun hHeld => ?_)
            case kcp => trivial
            clear hK K
            try simp only [Act.put, List.setIfInBounds_toArray, List.set_cons_zero, List.set_cons_succ]
            refine wpAnyH_take (i := 11) (oi := ⟨some 34, _, _, _, _, _⟩) (v := ?vn11c) rfl (by kernel_rfl) (by kernel_rfl) (by kernel_rfl) (fun _ _ _ h => h) (Or.inl ⟨by rfl, ?yn11c⟩) (by assumption) ?rn11c
            case yn11c => (intro w hSw; (try dsimp only at hSw); go_simp; try with_reducible rfl)
            try simp only [Act.put, List.setIfInBounds_toArray, List.set_cons_zero, List.set_cons_succ]
            refine wpAnyH_take (i := 12) (oi := ⟨some 35, _, _, _, _, _⟩) (v := ?vn12c) rfl (by kernel_rfl) (by kernel_rfl) (by kernel_rfl) (fun _ _ _ h => h) (Or.inl ⟨by rfl, ?yn12c⟩) (by assumption) ?rn12c
            case yn12c => (intro w hSw; (try dsimp only at hSw); go_simp; try with_reducible rfl)
            try simp only [Act.put, List.setIfInBounds_toArray, List.set_cons_zero, List.set_cons_succ]
            refine wpAnyH_ready (rs := [13]) (by kernel_rfl) (by simp) ?_
            refine (AllReadyH.cons (o := ⟨none, _, _, _, _, _⟩) rfl (fun K hK => ?_) AllReadyH.nil)
            go_simp
            refine hK.out _ _ ?kcs (fun hHeld => ?_)
            case kcs => trivial
            clear hK K
            try simp only [Act.put, List.setIfInBounds_toArray, List.set_cons_zero, List.set_cons_succ]
            refine wpAnyH_done (by kernel_rfl) ?_ _
            clear HC hap
            go_wp2
            go_roundw
            case rel => exact ⟨t + 1, HT.out.1, by go_num, _, _, _, _, H4.out⟩
            case measure => simp only [intOf]; have := HT.out; omega
          · go_simp
            refine hK.out _ _ ?kmd (fun hHeld => ?_)
            case kmd => trivial
            clear hK K
            try simp only [Act.put, List.setIfInBounds_toArray, List.set_cons_zero, List.set_cons_succ]
            have yc : (wb.alloc (.cells #[.pointer (some ⟨q, 0, none⟩)] 37)).cell? ⟨r, 0, none⟩ = some (.slice sa t sc) := HC.out _ (ob.out.alloc _)
            refine wpAnyH_ready (rs := [4]) (by kernel_rfl) (by simp) ?_
            refine (AllReadyH.cons (o := ⟨some 27, _, _, _, _, _⟩) rfl (fun K hK => ?_) AllReadyH.nil)
            go_simp
            refine hK.out _ _ ?kld (fun hHeld => ?_)
            case kld => trivial
            clear hK K
            try simp only [Act.put, List.setIfInBounds_toArray, List.set_cons_zero, List.set_cons_succ]
            obtain ⟨sa2, sc2, w3, D2, T2, hap, x3, x4, h4⟩ := HM.out.more HT.out.2 (ob.out.alloc (.cells #[.pointer (some ⟨q, 0, none⟩)] 37)) (HD2.out.up ((Up.refl Nul wb).alloc _) fun _ _ => id) HF2.out ⟨rfl, rfl, rfl, rfl⟩ wb.heap.size (heap_alloc_new _ _)
            have H4 := hid h4
            clear h4
            refine wpAnyH_ready (rs := [10]) (by kernel_rfl) (by simp) ?_
            refine (AllReadyH.cons (o := ⟨some 33, _, _, _, _, _⟩) rfl (fun K hK => ?_) AllReadyH.nil)
            refine wp_append_eqv _ _ 60 rfl (.slice sa t sc) _ (.slice sa2 (t + 1) sc2) rfl rfl hap ?_
            refine hK.out _ _ ?kdp (fun hHeld => ?_)
            case kdp => trivial
            clear hK K
            try simp only [Act.put, List.setIfInBounds_toArray, List.set_cons_zero, List.set_cons_succ]
            refine wpAnyH_take (i := 11) (oi := ⟨some 34, _, _, _, _, _⟩) (v := ?vn11d) rfl (by kernel_rfl) (by kernel_rfl) (by kernel_rfl) (fun _ _ _ h => h) (Or.inl ⟨by rfl, ?yn11d⟩) (by assumption) ?rn11d
            case yn11d => (intro w hSw; (try dsimp only at hSw); go_simp; try with_reducible rfl)
            try simp only [Act.put, List.setIfInBounds_toArray, List.set_cons_zero, List.set_cons_succ]
            refine wpAnyH_take (i := 12) (oi := ⟨some 35, _, _, _, _, _⟩) (v := ?vn12d) rfl (by kernel_rfl) (by kernel_rfl) (by kernel_rfl) (fun _ _ _ h => h) (Or.inl ⟨by rfl, ?yn12d⟩) (by assumption) ?rn12d
            case yn12d => (intro w hSw; (try dsimp only at hSw); go_simp; try with_reducible rfl)
            try simp only [Act.put, List.setIfInBounds_toArray, List.set_cons_zero, List.set_cons_succ]
            refine wpAnyH_ready (rs := [13]) (by kernel_rfl) (by simp) ?_
            refine (AllReadyH.cons (o := ⟨none, _, _, _, _, _⟩) rfl (fun K hK => ?_) AllReadyH.nil)
            go_simp
            refine hK.out _ _ ?kds (fun hHeld => ?_)
            case kds => trivial
            clear hK K
            try simp only [Act.put, List.setIfInBounds_toArray, List.set_cons_zero, List.set_cons_succ]
            refine wpAnyH_done (by kernel_rfl) ?_ _
            clear HC hap
            go_wp2
            go_roundw
            case rel => exact ⟨t + 1, HT.out.1, by go_num, _, _, _, _, H4.out⟩
            case measure => simp only [intOf]; have := HT.out; omega
    · have i1 : ¬ (t : Int) < (n : Int) := by omega
      have HT : Hid (t = n) := by show _ = _; omega
      clear hlt ht
      go_wp2_with fail
      go_ret2
      obtain rfl := HT.out
      have hr := HM.out
      obtain ⟨g, cap, cur, e, _, hg, hle, _, _, htk⟩ := hr.own.2.resolve_left fun e => by have := HN.out; omega
      injection e with e1 _ e3
      subst e1 e3
      refine ⟨r, rfl, D, fun x => (x = r ∨ x = g) ∨ T0 x, ⟨⟨g, sc, T0, ⟨hr.head, cur, hg, fun i hi => ?_⟩, hr.mn, fun _ => Iff.rfl⟩, HN.out.1, HN.out.2.1, HN.out.2.2, Nat.le_refl _⟩, hr.new, hr.up, fun x hx => ?_⟩
      · have e : (cur.toList.take (t * 1))[i]? = some (.pointer (some ⟨(D i).q, 0, none⟩)) := by
          rw [htk]
          simp [bayV, hi]
        rw [List.getElem?_take, if_pos (by omega)] at e
        simpa using e
      · rcases hx with (rfl | rfl) | e
        · exact hr.r0
        · exact hr.s0 _ rfl
        · exact hr.t0 x e
end Go.Proofs.Ytcejdobmgbielaa
