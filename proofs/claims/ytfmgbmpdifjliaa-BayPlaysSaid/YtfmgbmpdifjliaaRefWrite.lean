/- The document's 'Write', 'Replace', 'Rot'. -/
import Derived.Test.YtfmgbmpdifjliaaRefDisk
import Derived.Test.YtfmgbmpdifjliaaHand
import Derived.Deep.CutBlock
namespace Go.Proofs.Ytfmgbmpdifjliaa
open Go.RowKit
set_option linter.unusedVariables false

theorem info_wt : ∃ i z, Try.prog.info? 98 = some i ∧ i.zero = some z ∧ i.size = 3 ∧ i.bytes = 40 ∧ z.cells.size = 3 := by
  have h : (Try.prog.info? 98).map (fun i => (i.size, i.bytes, i.zero.map fun z => z.cells.size)) = some (3, 40, some 3) := by kernel_rfl
  cases e : Try.prog.info? 98 with
  | none => rw [e] at h; cases h
  | some i =>
    rw [e] at h
    simp only [Option.map_some, Option.some.injEq, Prod.mk.injEq, Option.map_eq_some_iff] at h
    obtain ⟨h1, h2, z, h3, h4⟩ := h
    exact ⟨i, z, rfl, h3, h1, h2, h4⟩
theorem wcell_length (x : Wt) : (wcell x).length = 3 := rfl
theorem one_wcell (x : Wt) : ∀ v ∈ wcell x, v.oneCell' = true := fun v hv => by
  cases hv with
  | head => rfl
  | tail _ hv => cases hv with
    | head => rfl
    | tail _ hv => cases hv with
      | head => rfl
      | tail _ hv => cases hv
/-- append(d.Wait, one). -/
theorem run_append_wt (w : World) (ty : TypeId) (v : Value) (ws : List Wt) (hown : w.ownsRow 0 98 3 v ws.length (wcells ws)) (bk : Nat) (x : Wt) (hb : w.heap[bk]? = some (.cells (wcell x).toArray 98 (0, 0))) (hl : ws.length ≤ 900000) :
    ∃ v' w', (Builtin.append_ #[62, 62] ty #[v, .slice (some ⟨bk, 0, none⟩) 1 1]).run Try.prog w = .ok v' w' ∧ w'.ownsRow 0 98 3 v' (ws ++ [x]).length (wcells (ws ++ [x])) ∧ w.grownBy w' v.ownBlock ∧ (v'.ownBlock = v.ownBlock ∨ v'.ownBlock = some w.heap.size) := by
  obtain ⟨i0, z0, hi, hz, hz1, hz2, hz3⟩ := info_wt
  have hnews : ∀ (j : Nat) (u : Value), (wcell x)[j]? = some u → w.cell? (Addr.add ⟨bk, 0, none⟩ j) = some u := fun j u hj => by
    rw [add_off, Nat.zero_add]
    simp only [World.cell?, hb]
    simpa using hj
  obtain ⟨v', w', hrun, g1, g2, _⟩ := run_append_own (P := Try.prog) w 0 62 ty 98 i0 z0 3 i0.bytes Try.underlying62 hi hz hz1 rfl hz3 (by decide) v ws.length _ hown ⟨bk, 0, none⟩ 1 1 (wcell x) rfl hnews (one_wcell x) (by unfold maxLen; omega) (by rw [hz2]; omega) (Nat.zero_le _)
  exact ⟨v', w', hrun, by rw [wcells_append, List.length_append]; exact g1, g2, append_where w w' v v' _ _ _ i0 z0 0 ws.length _ Try.underlying62 hi hz (by rw [hz1]; exact hown) ⟨bk, 0, none⟩ 1 (wcell x) (by rw [hz1]; rfl) hnews (one_wcell x) (by omega) (by rw [hz2]; omega) hrun⟩
theorem RD.grow {w w2 : World} {r : RK} (h : RD w r) (x : Wt) (hx : x.slot < r.n ∧ x.was.length = 96 ∧ x.now.length = 96) (hm : r.ws.length < 1000) (v' : Value) (own : w2.ownsRow 0 98 3 v' (r.ws ++ [x]).length (wcells (r.ws ++ [x]))) (u : Up (fun k => (Value.slice r.wa r.ws.length r.wc).ownBlock = some k) w w2) :
    ∃ wa wc, v' = .slice wa (r.ws.length + 1) wc ∧ RD (w2.setCell ⟨r.m, 2, none⟩ v') { r with wa := wa, wc := wc, ws := r.ws ++ [x] } := by
  have hn : (r.ws ++ [x]).length = r.ws.length + 1 := by simp
  rcases own.2 with ⟨_, e⟩ | ⟨g, cap, cur, rfl, hbg, hg, hrest⟩
  · rw [hn] at e; omega
  · rw [hn]
    have hm2 := (u.block _ h.lt fun e => ne_own h.head h.wait (by decide) e rfl).trans h.head
    have hs2 : w2.ownsRow 0 9 1 (.slice r.sa r.n r.sc) r.n (strV r.n r.R) := own_up h.slots u fun g hg e => by
      rcases h.slots.2 with ⟨e1, _⟩ | ⟨g1, cap1, cur1, e1, _, e2, _⟩
      · rw [e1] at hg; cases hg
      · rw [e1] at hg
        obtain rfl : g1 = g := by simpa [Value.ownBlock] using hg
        exact ne_own e2 h.wait (by decide) e rfl
    have u2 := (Up.refl (One r.m) w2).put rfl 2 (.slice (some ⟨g, 0, none⟩) (r.ws.length + 1) cap)
    refine ⟨_, _, rfl, ?_, own_up hs2 u2 fun g' hg' e => ne_own hm2 hs2 (by decide) hg' e, ?_, h.le, h.lenR, ?_, ?_⟩
    · have := heap_setCell_same w2 r.m 2 _ _ (.slice (some ⟨g, 0, none⟩) (r.ws.length + 1) cap) hm2
      simpa using this
    · refine ⟨own.1, .inr ⟨g, cap, cur, by simp, hbg, ?_, hrest⟩⟩
      rw [u2.block g (Array.getElem?_eq_some_iff.1 hg).1 (fun e => ne_type hm2 hg (by decide) (by unfold One at e; exact e.symm))]
      exact hg
    · intro y hy
      rcases List.mem_append.1 hy with hy | hy
      · exact h.lenW y hy
      · obtain rfl : y = x := by simpa using hy
        exact hx
    · show (r.ws ++ [x]).length ≤ 1000
      omega
theorem RD.slots_ne {w : World} {r : RK} (h : RD w r) {g : Nat} (hg : (Value.slice r.sa r.n r.sc).ownBlock = some g) : g ≠ r.m ∧ (Value.slice r.wa r.ws.length r.wc).ownBlock ≠ some g := by
  refine ⟨ne_own h.head h.slots (by decide) hg, fun e => ?_⟩
  rcases h.slots.2 with ⟨e1, _⟩ | ⟨g1, cap1, cur1, e1, _, e2, _⟩
  · rw [e1] at hg; cases hg
  · rw [e1] at hg
    obtain rfl : g1 = g := by simpa [Value.ownBlock] using hg
    exact ne_own e2 h.wait (by decide) e rfl
/-- A slot's string is another. -/
theorem RD.sets {w : World} {r : RK} (h : RD w r) {s g : Nat} (hs : s < r.n) (hg : r.sa = some ⟨g, 0, none⟩) (y : List Nat) (hy : y.length = 96) : RD (w.setCell ⟨g, s, none⟩ (.string (strOf y))) { r with R := upd r.R s y } := by
  have hgo : (Value.slice r.sa r.n r.sc).ownBlock = some g := by rw [hg]; rfl
  obtain ⟨n1, n2⟩ := h.slots_ne hgo
  have u := (Up.refl (One g) w).put rfl s (.string (strOf y))
  obtain ⟨g', cur, e, hc, ht, hnc, hcs⟩ := own_row h.slots (by omega)
  obtain rfl : g' = g := by rw [hg] at e; injection e with e; injection e with e; exact e.symm
  refine ⟨(u.block _ h.lt (fun e => n1 e.symm)).trans h.head, ⟨by rw [strV_length, Nat.mul_one], .inr ⟨g', r.sc, cur.setIfInBounds s (.string (strOf y)), by simp [hg], Nat.zero_le _, heap_setCell_same w g' s _ _ _ hc, hnc, ?_, by simpa using hcs, ?_⟩⟩, own_up h.wait u fun k hk e => n2 (by rw [hk]; exact congrArg some e), h.le, fun i hi => ?_, h.lenW, h.most⟩
  · rcases h.slots.2 with ⟨e1, e2⟩ | ⟨g1, cap1, cur1, e1, _, e2, _, h4, _⟩
    · omega
    · injection e1 with _ _ e3
      rw [e3]
      exact h4
  · rw [Array.toList_setIfInBounds, List.take_set, ht]
    exact strV_set y hs
  · show (upd r.R s y i).length = 96
    unfold upd
    split
    · exact hy
    · exact h.lenR i hi
theorem wp_append_eq {w w' : World} {o : Oper} {a : Act} {K : Act → World → Prop} {Q : Exit → Act → World → Prop} (s x : Operand) (t : TypeId)
    (ho : o.op = .call { callee := .builtin .append, args := #[s, x], argTypes := #[t, t] }) (v y v' : Value) (hs : a.eval s = v) (hx : a.eval x = y) (hrun : (Builtin.append_ #[t, t] o.type #[v, y]).run Try.prog w = .ok v' w') (h : K (a.put o.dst v') w') : Oper.wp Try.prog o a w K Q := by
  unfold Oper.wp
  simp [execOp, ho, resolve, invoke, builtin, hs, hx, hrun, Result.andThen]
  exact h
/-- What a write leaves. -/
structure RPut (w : World) (r : RK) (s : Nat) (y : List Nat) (w' : World) (r' : RK) : Prop where
  dsk : RD w' r'
  at_ : ∃ wa wc, r' = { r with wa := wa, wc := wc, ws := r.ws ++ [⟨s, r.R s, y⟩], R := upd r.R s y }
  foot : ∀ k, r'.foot k → r.foot k ∨ w.heap.size ≤ k
  up : Up (fun k => r.foot k ∨ r.fu = some k) w w'
theorem rfoot_fuse {w : World} {r : RK} (h : RD w r) {k : Option Nat} (hf : RFzO w r.fu k) : ∀ g, r.foot g → r.fu ≠ some g := by
  intro g hg e
  rw [e] at hf
  have hf : RFz w g k := hf
  rcases hg with e | hg | hg
  · exact ne_type h.head hf.heap (by decide) e.symm
  · exact ne_own hf.heap h.slots (by decide) hg rfl
  · exact ne_own hf.heap h.wait (by decide) hg rfl
set_option maxRecDepth 100000 in
set_option maxHeartbeats 1600000 in
theorem rwrite_good (r : RK) (s : Nat) (k : Option Nat) (y : List Nat) (w : World) (h : RD w r) (hs : s < r.n) (hy : y.length = 96) (hl : r.live = true) (hf : RFzO w r.fu k) (hk : k ≠ some 0) (hm : r.ws.length < 1000) :
    Calls Try.prog 50 #[.pointer (some ⟨r.m, 0, none⟩), .int .i64 s, .string (strOf y)] w fun e w' => e = .returned (.int .i64 0) ∧ RFzO w' r.fu (less k) ∧ ∃ r', RPut w r s y w' r' := by
  have HL := hid (rslot_in r s w h hs)
  have HF0 := hid hf
  have HKN := hid hk
  have HFT := hid (rfoot_fuse h hf)
  have H0 := hid h
  have HX := hid (And.intro hs (And.intro hm (And.intro hy hl)))
  have c1 := h.c1
  rw [hl] at c1
  have c3 := h.c3
  obtain ⟨m, M⟩ : ∃ m, Hid (r.m = m) := ⟨_, rfl⟩
  rw [M.out] at HL c1 c3 ⊢
  have i1 : ((strOf y).size : Int) = 96 := by rw [strOf_size, hy]; rfl
  clear h hs hy hl hf hk hm
  rcases Option.eq_none_or_eq_some r.fu with e | ⟨f, e⟩
  · skip
    rw [e] at c3
    replace c3 : w.cell? ⟨m, 3, none⟩ = some (.pointer none) := c3
    have HF1 : Hid (RFzO w r.fu (less k)) := by
      have h := HF0.out
      rw [e] at h
      obtain rfl : k = none := h
      rw [e]
      exact rfl
    have HU1 : Hid (Up (fun g => r.fu = some g) w w) := Up.refl _ _
    clear e
    go_enter Try.func50, Try.ntmps50
    go_wp2_with fail
    refine HL.out.mono ?_
    rintro e w0 ⟨rfl, rfl⟩
    go_upto_region 7 with fail
    have H1 : Hid (RD w0 r) := H0.out.up HU1.out fun g hg e => HFT.out g hg e
    have y0 := H1.out.c0
    have y2 := H1.out.c2
    have f2 := H1.out.fr 2
    obtain ⟨sg, e1, e2, e3, x1, x2⟩ := H1.out.slot HX.out.1
    rw [e1] at y0
    rw [M.out] at y0 y2 f2
    obtain ⟨was, WAS⟩ : ∃ z, Hid (strOf (r.R s) = z) := ⟨_, rfl⟩
    obtain ⟨now, NOW⟩ : ∃ z, Hid (strOf y = z) := ⟨_, rfl⟩
    rw [WAS.out] at x1
    rw [NOW.out] at i1 ⊢
    have HUA : Hid (Up Nul w0 (w0.alloc (.cells #[.int .i64 (s : Int), .string was, .string now] 98)).drew) := ((Up.refl _ _).alloc _).drew
    obtain ⟨v2, w2, hap, o2, gr, wh⟩ := run_append_wt (w0.alloc (.cells #[.int .i64 (s : Int), .string was, .string now] 98)).drew 62 (.slice r.wa r.ws.length r.wc) r.ws (own_up H1.out.wait HUA.out fun _ _ => id) w0.heap.size ⟨s, r.R s, y⟩ (by
      show (w0.alloc _).heap[w0.heap.size]? = _
      rw [heap_alloc_new, ← WAS.out, ← NOW.out]
      rfl) (by have := HX.out.2.1; omega)
    have u2 : Up (fun k => (Value.slice r.wa r.ws.length r.wc).ownBlock = some k) w0 w2 := by
      refine ⟨gr.os.trans HUA.out.os, gr.tape.trans HUA.out.tape, gr.output.trans HUA.out.output, Nat.le_trans HUA.out.size gr.size, fun k hk hn => ?_⟩
      rw [gr.block k (Nat.lt_of_lt_of_le hk HUA.out.size) (fun e => hn e.symm), HUA.out.block k hk id]
    obtain ⟨wa2, wc2, rfl, h3⟩ := H1.out.grow ⟨s, r.R s, y⟩ ⟨HX.out.1, H1.out.lenR s HX.out.1, HX.out.2.2.1⟩ HX.out.2.1 v2 o2 u2
    have hne := (H1.out.slots_ne e3)
    have c2' : w2.cell? ⟨m, 2, none⟩ = some (.slice r.wa r.ws.length r.wc) := by
      rw [u2.cell (p := ⟨m, 2, none⟩) (by rw [← M.out]; exact H1.out.lt) (fun e => ne_own H1.out.head H1.out.wait (by decide) e (by rw [M.out]))]
      exact y2
    have f2' : w2.frozen? ⟨m, 2, none⟩ = false := by
      rw [u2.froz (p := ⟨m, 2, none⟩) (by rw [← M.out]; exact H1.out.lt) (fun e => ne_own H1.out.head H1.out.wait (by decide) e (by rw [M.out]))]
      exact f2
    have z0 := h3.c0
    obtain ⟨sg', e1', _, _, z1, z2⟩ := h3.slot (s := s) HX.out.1
    have e4 : sg' = sg := by
      have e1' : r.sa = some ⟨sg', 0, none⟩ := e1'
      rw [e1] at e1'
      injection e1' with e1'
      injection e1' with e1'
      exact e1'.symm
    subst e4
    have h4 := h3.sets (s := s) (g := sg') HX.out.1 e1 y HX.out.2.2.1
    dsimp only at z0 z1 z2 h4
    rw [e1] at z0
    rw [M.out] at z0 z1 z2
    rw [NOW.out] at h4
    have h4 : RD ((w2.setCell ⟨m, 2, none⟩ (.slice wa2 (r.ws.length + 1) wc2)).setCell ⟨sg', s, none⟩ (.string now)) { r with wa := wa2, wc := wc2, ws := r.ws ++ [⟨s, r.R s, y⟩], R := upd r.R s y } := by rw [← M.out]; exact h4
    have HEND : Hid (RFzO ((w2.setCell ⟨m, 2, none⟩ (.slice wa2 (r.ws.length + 1) wc2)).setCell ⟨sg', s, none⟩ (.string now)) r.fu (less k) ∧ ∃ r', RPut w0 r s y ((w2.setCell ⟨m, 2, none⟩ (.slice wa2 (r.ws.length + 1) wc2)).setCell ⟨sg', s, none⟩ (.string now)) r') := by
      have u3 : Up (fun k => r.foot k ∨ r.fu = some k) w0 ((w2.setCell ⟨m, 2, none⟩ (.slice wa2 (r.ws.length + 1) wc2)).setCell ⟨sg', s, none⟩ (.string now)) :=
        (((HU1.out.mono fun g _ e => .inr e).trans (u2.mono fun g _ e => .inl (.inr (.inr e)))).put (.inl (.inl M.out.symm)) 2 _).put (.inl (.inr (.inl e3))) s _
      refine ⟨((HF1.out.up u2 fun f F e => HFT.out f (.inr (.inr e)) F).up ((Up.refl (One m) _).put rfl 2 _) fun f F e => HFT.out f (.inl (by unfold One at e; rw [e, M.out])) F).up ((Up.refl (One sg') _).put rfl s _) fun f F e => HFT.out f (.inr (.inl (by unfold One at e; rw [e]; exact e3))) F, _, h4, ⟨_, _, rfl⟩, fun g hg => ?_, u3⟩
      rcases hg with e | e | e
      · exact .inl (.inl e)
      · exact .inl (.inr (.inl e))
      · have e : (Value.slice wa2 (r.ws ++ [(⟨s, r.R s, y⟩ : Wt)]).length wc2).ownBlock = some g := e
        have e : (Value.slice wa2 (r.ws.length + 1) wc2).ownBlock = some g := by cases wa2 <;> exact e
        rcases wh with w3 | w3
        · exact .inl (.inr (.inr (w3 ▸ e)))
        · rw [w3] at e
          injection e with e
          have := HUA.out.size
          have := HU1.out.size
          exact .inr (by omega)
    have i2 : (s : Int) < (r.n : Int) := by have := HX.out.1; omega
    have HSW : Hid (w2.cell? ⟨m, 0, none⟩ = some (.slice (some ⟨sg', 0, none⟩) r.n r.sc) ∧ w2.cell? ⟨sg', s, none⟩ = some (.string was)) :=
      ⟨by rw [World.cell?_setCell_other _ _ _ _ (by simp)] at z0; exact z0, by
        have hn : m ≠ sg' := by rw [← M.out]; exact fun e => hne.1 e.symm
        rw [World.cell?_setCell_other _ _ _ _ (by first | (simp; done) | (simp; intro e; exact absurd e hn))] at z1
        rw [WAS.out] at z1
        exact z1⟩
    rw [WAS.out] at z1
    clear c1 c3 o2 gr wh u2 h3 h4 hne e3 e2 H0 H1 HF1 HU1 HX e1' HUA
    generalize r.n = n at y0 z0 i2 HSW
    generalize r.sc = sc at y0 z0 HSW
    generalize r.ws.length = wl at y2 hap c2' z0 z1 z2 HEND
    generalize r.wa = wa at y2 hap c2'
    generalize r.wc = wc at y2 hap c2'
    have HS : Hid (∀ W, Up Nul w0 W → W.cell? ⟨m, 0, none⟩ = some (.slice (some ⟨sg', 0, none⟩) n sc) ∧ W.cell? ⟨sg', s, none⟩ = some (.string was)) := fun W u => ⟨(u.cell (p := ⟨m, 0, none⟩) (lt_of_cell y0) id).trans y0, (u.cell (p := ⟨sg', s, none⟩) (lt_of_cell x1) id).trans x1⟩
    have HS2 : Hid (w2.cell? ⟨m, 0, none⟩ = some (.slice (some ⟨sg', 0, none⟩) n sc) ∧ w2.cell? ⟨sg', s, none⟩ = some (.string was)) := HSW.out
    have HS3 : Hid ((w2.setCell ⟨m, 2, none⟩ (.slice wa2 (wl + 1) wc2)).cell? ⟨m, 0, none⟩ = some (.slice (some ⟨sg', 0, none⟩) n sc) ∧ (w2.setCell ⟨m, 2, none⟩ (.slice wa2 (wl + 1) wc2)).cell? ⟨sg', s, none⟩ = some (.string was)) := ⟨z0, z1⟩
    have x3 : (w0.alloc (.cells #[.int .i64 (s : Int), .string was, .string now] 98)).cell? ⟨m, 2, none⟩ = some (.slice wa wl wc) := by
      rw [World.cell?_alloc_lt _ _ _ (lt_of_cell y2)]
      exact y2
    have HAP := hid hap
    have HU0 : Hid (Up Nul w0 w0.drew) := (Up.refl _ _).drew
    have HU2 : Hid (Up Nul w0 (w0.alloc (.cells #[.int .i64 (s : Int), .string was, .string now] 98)).drew) := ((Up.refl _ _).alloc _).drew
    clear hap
    refine wp_region_held_drew (S := fun W => W.cell? ⟨m, 0, none⟩ = some (.slice (some ⟨sg', 0, none⟩) n sc) ∧ W.cell? ⟨sg', s, none⟩ = some (.string was)) (by kernel_rfl) (by exact HS.out _ HU0.out) (fun hHeld => ?_)
    refine wpAnyH_take (i := 0) (oi := ⟨some 37, _, _, _, _, _⟩) (v := ?vu0) rfl (by kernel_rfl) (by kernel_rfl) (by kernel_rfl) (fun _ _ _ h => h) (Or.inl ⟨by rfl, ?yu0⟩) (by assumption) ?ru0
    case yu0 => (intro w hSw; (try dsimp only at hSw); go_simp; try with_reducible rfl)
    try simp only [Act.put, List.setIfInBounds_toArray, List.set_cons_zero, List.set_cons_succ]
    refine wpAnyH_take (i := 1) (oi := ⟨some 38, _, _, _, _, _⟩) (v := ?vu1) rfl (by kernel_rfl) (by kernel_rfl) (by kernel_rfl) (fun _ _ _ h => h) (Or.inl ⟨by rfl, ?yu1⟩) (by assumption) ?ru1
    case yu1 => (intro w hSw; (try dsimp only at hSw); go_simp; try with_reducible rfl)
    try simp only [Act.put, List.setIfInBounds_toArray, List.set_cons_zero, List.set_cons_succ]
    refine wpAnyH_take (i := 2) (oi := ⟨some 39, _, _, _, _, _⟩) (v := ?vu2) rfl (by kernel_rfl) (by kernel_rfl) (by kernel_rfl) (fun _ _ _ h => h) (Or.inl ⟨by rfl, ?yu2⟩) (by assumption) ?ru2
    case yu2 => (intro w hSw; (try dsimp only at hSw); go_simp; try with_reducible rfl)
    try simp only [Act.put, List.setIfInBounds_toArray, List.set_cons_zero, List.set_cons_succ]
    refine wpAnyH_take (i := 3) (oi := ⟨some 40, _, _, _, _, _⟩) (v := ?vu3) rfl (by kernel_rfl) (by kernel_rfl) (by kernel_rfl) (fun _ _ _ h => h) (Or.inl ⟨by rfl, ?yu3⟩) (by assumption) ?ru3
    case yu3 => (intro w hSw; (try dsimp only at hSw); go_simp; try with_reducible rfl)
    try simp only [Act.put, List.setIfInBounds_toArray, List.set_cons_zero, List.set_cons_succ]
    refine wpAnyH_take (i := 5) (oi := ⟨some 42, _, _, _, _, _⟩) (v := ?vu5) rfl (by kernel_rfl) (by kernel_rfl) (by kernel_rfl) (fun _ _ _ h => h) (Or.inl ⟨by rfl, ?yu5⟩) (by assumption) ?ru5
    case yu5 => (intro w hSw; (try dsimp only at hSw); go_simp; try with_reducible rfl)
    try simp only [Act.put, List.setIfInBounds_toArray, List.set_cons_zero, List.set_cons_succ]
    refine wpAnyH_take (i := 6) (oi := ⟨some 43, _, _, _, _, _⟩) (v := ?vu6) rfl (by kernel_rfl) (by kernel_rfl) (by kernel_rfl) (fun _ _ _ h => h) (Or.inl ⟨by rfl, ?yu6⟩) (by assumption) ?ru6
    case yu6 => (intro w hSw; (try dsimp only at hSw); go_simp; try with_reducible rfl)
    try simp only [Act.put, List.setIfInBounds_toArray, List.set_cons_zero, List.set_cons_succ]
    refine wpAnyH_take (i := 7) (oi := ⟨some 44, _, _, _, _, _⟩) (v := ?vu7) rfl (by kernel_rfl) (by kernel_rfl) (by kernel_rfl) (fun _ _ _ h => h) (Or.inl ⟨by rfl, ?yu7⟩) (by assumption) ?ru7
    case yu7 => (intro w hSw; (try dsimp only at hSw); go_simp; try with_reducible rfl)
    try simp only [Act.put, List.setIfInBounds_toArray, List.set_cons_zero, List.set_cons_succ]
    refine wpAnyH_take (i := 8) (oi := ⟨some 45, _, _, _, _, _⟩) (v := ?vu8) rfl (by kernel_rfl) (by kernel_rfl) (by kernel_rfl) (fun _ _ _ h => h) (Or.inl ⟨by rfl, ?yu8⟩) (by assumption) ?ru8
    case yu8 => (intro w hSw; (try dsimp only at hSw); go_simp; try with_reducible rfl)
    try simp only [Act.put, List.setIfInBounds_toArray, List.set_cons_zero, List.set_cons_succ]
    refine wpAnyH_take (i := 9) (oi := ⟨some 46, _, _, _, _, _⟩) (v := ?vu9) rfl (by kernel_rfl) (by kernel_rfl) (by kernel_rfl) (fun _ _ _ h => h) (Or.inl ⟨by rfl, ?yu9⟩) (by assumption) ?ru9
    case yu9 => (intro w hSw; (try dsimp only at hSw); go_simp; try with_reducible rfl)
    try simp only [Act.put, List.setIfInBounds_toArray, List.set_cons_zero, List.set_cons_succ]
    refine wpAnyH_take (i := 10) (oi := ⟨some 47, _, _, _, _, _⟩) (v := ?vu10) rfl (by kernel_rfl) (by kernel_rfl) (by kernel_rfl) (fun _ _ _ h => h) (Or.inl ⟨by rfl, ?yu10⟩) (by assumption) ?ru10
    case yu10 => (intro w hSw; (try dsimp only at hSw); go_simp; try with_reducible rfl)
    try simp only [Act.put, List.setIfInBounds_toArray, List.set_cons_zero, List.set_cons_succ]
    refine wpAnyH_take (i := 11) (oi := ⟨some 48, _, _, _, _, _⟩) (v := ?vu11) rfl (by kernel_rfl) (by kernel_rfl) (by kernel_rfl) (fun _ _ _ h => h) (Or.inl ⟨by rfl, ?yu11⟩) (by assumption) ?ru11
    case yu11 => (intro w hSw; (try dsimp only at hSw); go_simp; try with_reducible rfl)
    try simp only [Act.put, List.setIfInBounds_toArray, List.set_cons_zero, List.set_cons_succ]
    refine wpAnyH_take (i := 12) (oi := ⟨some 49, _, _, _, _, _⟩) (v := ?vu12) rfl (by kernel_rfl) (by kernel_rfl) (by kernel_rfl) (fun _ _ _ h => h) (Or.inl ⟨by rfl, ?yu12⟩) (by assumption) ?ru12
    case yu12 => (intro w hSw; (try dsimp only at hSw); go_simp; try with_reducible rfl)
    try simp only [Act.put, List.setIfInBounds_toArray, List.set_cons_zero, List.set_cons_succ]
    refine wpAnyH_take (i := 13) (oi := ⟨some 50, _, _, _, _, _⟩) (v := ?vu13) rfl (by kernel_rfl) (by kernel_rfl) (by kernel_rfl) (fun _ _ _ h => h) (Or.inl ⟨by rfl, ?yu13⟩) (by assumption) ?ru13
    case yu13 => (intro w hSw; (try dsimp only at hSw); go_simp; try with_reducible rfl)
    try simp only [Act.put, List.setIfInBounds_toArray, List.set_cons_zero, List.set_cons_succ]
    refine wpAnyH_take (i := 14) (oi := ⟨some 51, _, _, _, _, _⟩) (v := ?vu14) rfl (by kernel_rfl) (by kernel_rfl) (by kernel_rfl) (fun _ _ _ h => h) (Or.inl ⟨by rfl, ?yu14⟩) (by assumption) ?ru14
    case yu14 => (intro w hSw; (try dsimp only at hSw); go_simp; try with_reducible rfl)
    try simp only [Act.put, List.setIfInBounds_toArray, List.set_cons_zero, List.set_cons_succ]
    refine wpAnyH_ready (rs := [4, 15]) (by kernel_rfl) (by simp) ?_
    refine AllReadyH.cons (o := ⟨some 41, _, _, _, _, _⟩) rfl (fun K hK => ?_) (AllReadyH.cons (o := ⟨some 52, _, _, _, _, _⟩) rfl (fun K hK => ?_) AllReadyH.nil)
    · go_simp
      refine hK.out _ _ ?kla (fun hHeld => ?_)
      case kla => exact HS.out _ HU0.out
      clear hK K
      try simp only [Act.put, List.setIfInBounds_toArray, List.set_cons_zero, List.set_cons_succ]
      refine wpAnyH_ready (rs := [15]) (by kernel_rfl) (by simp) ?_
      refine AllReadyH.cons (o := ⟨some 52, _, _, _, _, _⟩) rfl (fun K hK => ?_) AllReadyH.nil
      go_simp
      refine hK.out _ _ ?ksa (fun hHeld => ?_)
      case ksa => exact HS.out _ HU2.out
      clear hK K
      try simp only [Act.put, List.setIfInBounds_toArray, List.set_cons_zero, List.set_cons_succ]
      refine wpAnyH_ready (rs := [16]) (by kernel_rfl) (by simp) ?_
      refine AllReadyH.cons (o := ⟨some 53, _, _, _, _, _⟩) rfl (fun K hK => ?_) AllReadyH.nil
      refine wp_append_eq _ _ 62 rfl (.slice wa wl wc) _ _ rfl rfl HAP.out ?_
      refine hK.out _ _ ?kap (fun hHeld => ?_)
      case kap => exact HS2.out
      clear hK K
      try simp only [Act.put, List.setIfInBounds_toArray, List.set_cons_zero, List.set_cons_succ]
      refine wpAnyH_take (i := 17) (oi := ⟨some 54, _, _, _, _, _⟩) (v := ?vu17a) rfl (by kernel_rfl) (by kernel_rfl) (by kernel_rfl) (fun _ _ _ h => h) (Or.inl ⟨by rfl, ?yu17a⟩) (by assumption) ?ru17a
      case yu17a => (intro w hSw; (try dsimp only at hSw); go_simp; try with_reducible rfl)
      try simp only [Act.put, List.setIfInBounds_toArray, List.set_cons_zero, List.set_cons_succ]
      refine wpAnyH_take (i := 18) (oi := ⟨some 55, _, _, _, _, _⟩) (v := ?vu18a) rfl (by kernel_rfl) (by kernel_rfl) (by kernel_rfl) (fun _ _ _ h => h) (Or.inl ⟨by rfl, ?yu18a⟩) (by assumption) ?ru18a
      case yu18a => (intro w hSw; (try dsimp only at hSw); go_simp; try with_reducible rfl)
      try simp only [Act.put, List.setIfInBounds_toArray, List.set_cons_zero, List.set_cons_succ]
      refine wpAnyH_ready (rs := [19]) (by kernel_rfl) (by simp) ?_
      refine AllReadyH.cons (o := ⟨none, _, _, _, _, _⟩) rfl (fun K hK => ?_) AllReadyH.nil
      go_simp
      refine hK.out _ _ ?kas (fun hHeld => ?_)
      case kas => exact HS3.out
      clear hK K
      try simp only [Act.put, List.setIfInBounds_toArray, List.set_cons_zero, List.set_cons_succ]
      refine wpAnyH_done (by kernel_rfl) ?_ _
      clear HS HS2 HS3 HAP HU0 HU2
      go_wp2
      go_ret
      exact ⟨rfl, HEND.out⟩
    · go_simp
      refine hK.out _ _ ?ksb (fun hHeld => ?_)
      case ksb => exact HS.out _ HU2.out
      clear hK K
      try simp only [Act.put, List.setIfInBounds_toArray, List.set_cons_zero, List.set_cons_succ]
      refine wpAnyH_ready (rs := [4]) (by kernel_rfl) (by simp) ?_
      refine AllReadyH.cons (o := ⟨some 41, _, _, _, _, _⟩) rfl (fun K hK => ?_) AllReadyH.nil
      go_simp
      refine hK.out _ _ ?klb (fun hHeld => ?_)
      case klb => exact HS.out _ HU2.out
      clear hK K
      try simp only [Act.put, List.setIfInBounds_toArray, List.set_cons_zero, List.set_cons_succ]
      refine wpAnyH_ready (rs := [16]) (by kernel_rfl) (by simp) ?_
      refine AllReadyH.cons (o := ⟨some 53, _, _, _, _, _⟩) rfl (fun K hK => ?_) AllReadyH.nil
      refine wp_append_eq _ _ 62 rfl (.slice wa wl wc) _ _ rfl rfl HAP.out ?_
      refine hK.out _ _ ?kbp (fun hHeld => ?_)
      case kbp => exact HS2.out
      clear hK K
      try simp only [Act.put, List.setIfInBounds_toArray, List.set_cons_zero, List.set_cons_succ]
      refine wpAnyH_take (i := 17) (oi := ⟨some 54, _, _, _, _, _⟩) (v := ?vu17b) rfl (by kernel_rfl) (by kernel_rfl) (by kernel_rfl) (fun _ _ _ h => h) (Or.inl ⟨by rfl, ?yu17b⟩) (by assumption) ?ru17b
      case yu17b => (intro w hSw; (try dsimp only at hSw); go_simp; try with_reducible rfl)
      try simp only [Act.put, List.setIfInBounds_toArray, List.set_cons_zero, List.set_cons_succ]
      refine wpAnyH_take (i := 18) (oi := ⟨some 55, _, _, _, _, _⟩) (v := ?vu18b) rfl (by kernel_rfl) (by kernel_rfl) (by kernel_rfl) (fun _ _ _ h => h) (Or.inl ⟨by rfl, ?yu18b⟩) (by assumption) ?ru18b
      case yu18b => (intro w hSw; (try dsimp only at hSw); go_simp; try with_reducible rfl)
      try simp only [Act.put, List.setIfInBounds_toArray, List.set_cons_zero, List.set_cons_succ]
      refine wpAnyH_ready (rs := [19]) (by kernel_rfl) (by simp) ?_
      refine AllReadyH.cons (o := ⟨none, _, _, _, _, _⟩) rfl (fun K hK => ?_) AllReadyH.nil
      go_simp
      refine hK.out _ _ ?kbs (fun hHeld => ?_)
      case kbs => exact HS3.out
      clear hK K
      try simp only [Act.put, List.setIfInBounds_toArray, List.set_cons_zero, List.set_cons_succ]
      refine wpAnyH_done (by kernel_rfl) ?_ _
      clear HS HS2 HS3 HAP HU0 HU2
      go_wp2
      go_ret
      exact ⟨rfl, HEND.out⟩
  · skip
    rw [e] at c3
    replace c3 : w.cell? ⟨m, 3, none⟩ = some (.pointer (some ⟨f, 0, none⟩)) := c3
    have HSP := hid (rspend_live f k w (by have h := HF0.out; rw [e] at h; exact h) HKN.out)
    have HEF : Hid (r.fu = some f) := e
    clear e
    go_enter Try.func50, Try.ntmps50
    go_wp2_with fail
    refine HL.out.mono ?_
    rintro e w0 ⟨rfl, rfl⟩
    go_wp2_with fail
    refine HSP.out.mono ?_
    rintro e w1 ⟨rfl, g1, g2⟩
    have HF1 : Hid (RFzO w1 r.fu (less k)) := by rw [HEF.out]; exact g1
    have HU1 : Hid (Up (fun g => r.fu = some g) w0 w1) := g2.mono fun g _ e => by unfold One at e; rw [e]; exact HEF.out
    clear g1 g2
    have H1 : Hid (RD w1 r) := H0.out.up HU1.out fun g hg e => HFT.out g hg e
    have y0 := H1.out.c0
    have y2 := H1.out.c2
    have f2 := H1.out.fr 2
    obtain ⟨sg, e1, e2, e3, x1, x2⟩ := H1.out.slot HX.out.1
    rw [e1] at y0
    rw [M.out] at y0 y2 f2
    obtain ⟨was, WAS⟩ : ∃ z, Hid (strOf (r.R s) = z) := ⟨_, rfl⟩
    obtain ⟨now, NOW⟩ : ∃ z, Hid (strOf y = z) := ⟨_, rfl⟩
    rw [WAS.out] at x1
    rw [NOW.out] at i1 ⊢
    have HUA : Hid (Up Nul w1 (w1.alloc (.cells #[.int .i64 (s : Int), .string was, .string now] 98)).drew) := ((Up.refl _ _).alloc _).drew
    obtain ⟨v2, w2, hap, o2, gr, wh⟩ := run_append_wt (w1.alloc (.cells #[.int .i64 (s : Int), .string was, .string now] 98)).drew 62 (.slice r.wa r.ws.length r.wc) r.ws (own_up H1.out.wait HUA.out fun _ _ => id) w1.heap.size ⟨s, r.R s, y⟩ (by
      show (w1.alloc _).heap[w1.heap.size]? = _
      rw [heap_alloc_new, ← WAS.out, ← NOW.out]
      rfl) (by have := HX.out.2.1; omega)
    have u2 : Up (fun k => (Value.slice r.wa r.ws.length r.wc).ownBlock = some k) w1 w2 := by
      refine ⟨gr.os.trans HUA.out.os, gr.tape.trans HUA.out.tape, gr.output.trans HUA.out.output, Nat.le_trans HUA.out.size gr.size, fun k hk hn => ?_⟩
      rw [gr.block k (Nat.lt_of_lt_of_le hk HUA.out.size) (fun e => hn e.symm), HUA.out.block k hk id]
    obtain ⟨wa2, wc2, rfl, h3⟩ := H1.out.grow ⟨s, r.R s, y⟩ ⟨HX.out.1, H1.out.lenR s HX.out.1, HX.out.2.2.1⟩ HX.out.2.1 v2 o2 u2
    have hne := (H1.out.slots_ne e3)
    have c2' : w2.cell? ⟨m, 2, none⟩ = some (.slice r.wa r.ws.length r.wc) := by
      rw [u2.cell (p := ⟨m, 2, none⟩) (by rw [← M.out]; exact H1.out.lt) (fun e => ne_own H1.out.head H1.out.wait (by decide) e (by rw [M.out]))]
      exact y2
    have f2' : w2.frozen? ⟨m, 2, none⟩ = false := by
      rw [u2.froz (p := ⟨m, 2, none⟩) (by rw [← M.out]; exact H1.out.lt) (fun e => ne_own H1.out.head H1.out.wait (by decide) e (by rw [M.out]))]
      exact f2
    have z0 := h3.c0
    obtain ⟨sg', e1', _, _, z1, z2⟩ := h3.slot (s := s) HX.out.1
    have e4 : sg' = sg := by
      have e1' : r.sa = some ⟨sg', 0, none⟩ := e1'
      rw [e1] at e1'
      injection e1' with e1'
      injection e1' with e1'
      exact e1'.symm
    subst e4
    have h4 := h3.sets (s := s) (g := sg') HX.out.1 e1 y HX.out.2.2.1
    dsimp only at z0 z1 z2 h4
    rw [e1] at z0
    rw [M.out] at z0 z1 z2
    rw [NOW.out] at h4
    have h4 : RD ((w2.setCell ⟨m, 2, none⟩ (.slice wa2 (r.ws.length + 1) wc2)).setCell ⟨sg', s, none⟩ (.string now)) { r with wa := wa2, wc := wc2, ws := r.ws ++ [⟨s, r.R s, y⟩], R := upd r.R s y } := by rw [← M.out]; exact h4
    have HEND : Hid (RFzO ((w2.setCell ⟨m, 2, none⟩ (.slice wa2 (r.ws.length + 1) wc2)).setCell ⟨sg', s, none⟩ (.string now)) r.fu (less k) ∧ ∃ r', RPut w0 r s y ((w2.setCell ⟨m, 2, none⟩ (.slice wa2 (r.ws.length + 1) wc2)).setCell ⟨sg', s, none⟩ (.string now)) r') := by
      have u3 : Up (fun k => r.foot k ∨ r.fu = some k) w0 ((w2.setCell ⟨m, 2, none⟩ (.slice wa2 (r.ws.length + 1) wc2)).setCell ⟨sg', s, none⟩ (.string now)) :=
        (((HU1.out.mono fun g _ e => .inr e).trans (u2.mono fun g _ e => .inl (.inr (.inr e)))).put (.inl (.inl M.out.symm)) 2 _).put (.inl (.inr (.inl e3))) s _
      refine ⟨((HF1.out.up u2 fun f F e => HFT.out f (.inr (.inr e)) F).up ((Up.refl (One m) _).put rfl 2 _) fun f F e => HFT.out f (.inl (by unfold One at e; rw [e, M.out])) F).up ((Up.refl (One sg') _).put rfl s _) fun f F e => HFT.out f (.inr (.inl (by unfold One at e; rw [e]; exact e3))) F, _, h4, ⟨_, _, rfl⟩, fun g hg => ?_, u3⟩
      rcases hg with e | e | e
      · exact .inl (.inl e)
      · exact .inl (.inr (.inl e))
      · have e : (Value.slice wa2 (r.ws ++ [(⟨s, r.R s, y⟩ : Wt)]).length wc2).ownBlock = some g := e
        have e : (Value.slice wa2 (r.ws.length + 1) wc2).ownBlock = some g := by cases wa2 <;> exact e
        rcases wh with w3 | w3
        · exact .inl (.inr (.inr (w3 ▸ e)))
        · rw [w3] at e
          injection e with e
          have := HUA.out.size
          have := HU1.out.size
          exact .inr (by omega)
    have i2 : (s : Int) < (r.n : Int) := by have := HX.out.1; omega
    have HSW : Hid (w2.cell? ⟨m, 0, none⟩ = some (.slice (some ⟨sg', 0, none⟩) r.n r.sc) ∧ w2.cell? ⟨sg', s, none⟩ = some (.string was)) :=
      ⟨by rw [World.cell?_setCell_other _ _ _ _ (by simp)] at z0; exact z0, by
        have hn : m ≠ sg' := by rw [← M.out]; exact fun e => hne.1 e.symm
        rw [World.cell?_setCell_other _ _ _ _ (by first | (simp; done) | (simp; intro e; exact absurd e hn))] at z1
        rw [WAS.out] at z1
        exact z1⟩
    rw [WAS.out] at z1
    clear c1 c3 o2 gr wh u2 h3 h4 hne e3 e2 H0 H1 HF1 HU1 HX e1' HUA
    generalize r.n = n at y0 z0 i2 HSW
    generalize r.sc = sc at y0 z0 HSW
    generalize r.ws.length = wl at y2 hap c2' z0 z1 z2 HEND
    generalize r.wa = wa at y2 hap c2'
    generalize r.wc = wc at y2 hap c2'
    have HS : Hid (∀ W, Up Nul w1 W → W.cell? ⟨m, 0, none⟩ = some (.slice (some ⟨sg', 0, none⟩) n sc) ∧ W.cell? ⟨sg', s, none⟩ = some (.string was)) := fun W u => ⟨(u.cell (p := ⟨m, 0, none⟩) (lt_of_cell y0) id).trans y0, (u.cell (p := ⟨sg', s, none⟩) (lt_of_cell x1) id).trans x1⟩
    have HS2 : Hid (w2.cell? ⟨m, 0, none⟩ = some (.slice (some ⟨sg', 0, none⟩) n sc) ∧ w2.cell? ⟨sg', s, none⟩ = some (.string was)) := HSW.out
    have HS3 : Hid ((w2.setCell ⟨m, 2, none⟩ (.slice wa2 (wl + 1) wc2)).cell? ⟨m, 0, none⟩ = some (.slice (some ⟨sg', 0, none⟩) n sc) ∧ (w2.setCell ⟨m, 2, none⟩ (.slice wa2 (wl + 1) wc2)).cell? ⟨sg', s, none⟩ = some (.string was)) := ⟨z0, z1⟩
    have x3 : (w1.alloc (.cells #[.int .i64 (s : Int), .string was, .string now] 98)).cell? ⟨m, 2, none⟩ = some (.slice wa wl wc) := by
      rw [World.cell?_alloc_lt _ _ _ (lt_of_cell y2)]
      exact y2
    have HAP := hid hap
    have HU0 : Hid (Up Nul w1 w1.drew) := (Up.refl _ _).drew
    have HU2 : Hid (Up Nul w1 (w1.alloc (.cells #[.int .i64 (s : Int), .string was, .string now] 98)).drew) := ((Up.refl _ _).alloc _).drew
    clear hap
    go_wp2_with fail
    refine wp_region_held_drew (S := fun W => W.cell? ⟨m, 0, none⟩ = some (.slice (some ⟨sg', 0, none⟩) n sc) ∧ W.cell? ⟨sg', s, none⟩ = some (.string was)) (by kernel_rfl) (by exact HS.out _ HU0.out) (fun hHeld => ?_)
    refine wpAnyH_take (i := 0) (oi := ⟨some 37, _, _, _, _, _⟩) (v := ?vZu0) rfl (by kernel_rfl) (by kernel_rfl) (by kernel_rfl) (fun _ _ _ h => h) (Or.inl ⟨by rfl, ?yZu0⟩) (by assumption) ?rZu0
    case yZu0 => (intro w hSw; (try dsimp only at hSw); go_simp; try with_reducible rfl)
    try simp only [Act.put, List.setIfInBounds_toArray, List.set_cons_zero, List.set_cons_succ]
    refine wpAnyH_take (i := 1) (oi := ⟨some 38, _, _, _, _, _⟩) (v := ?vZu1) rfl (by kernel_rfl) (by kernel_rfl) (by kernel_rfl) (fun _ _ _ h => h) (Or.inl ⟨by rfl, ?yZu1⟩) (by assumption) ?rZu1
    case yZu1 => (intro w hSw; (try dsimp only at hSw); go_simp; try with_reducible rfl)
    try simp only [Act.put, List.setIfInBounds_toArray, List.set_cons_zero, List.set_cons_succ]
    refine wpAnyH_take (i := 2) (oi := ⟨some 39, _, _, _, _, _⟩) (v := ?vZu2) rfl (by kernel_rfl) (by kernel_rfl) (by kernel_rfl) (fun _ _ _ h => h) (Or.inl ⟨by rfl, ?yZu2⟩) (by assumption) ?rZu2
    case yZu2 => (intro w hSw; (try dsimp only at hSw); go_simp; try with_reducible rfl)
    try simp only [Act.put, List.setIfInBounds_toArray, List.set_cons_zero, List.set_cons_succ]
    refine wpAnyH_take (i := 3) (oi := ⟨some 40, _, _, _, _, _⟩) (v := ?vZu3) rfl (by kernel_rfl) (by kernel_rfl) (by kernel_rfl) (fun _ _ _ h => h) (Or.inl ⟨by rfl, ?yZu3⟩) (by assumption) ?rZu3
    case yZu3 => (intro w hSw; (try dsimp only at hSw); go_simp; try with_reducible rfl)
    try simp only [Act.put, List.setIfInBounds_toArray, List.set_cons_zero, List.set_cons_succ]
    refine wpAnyH_take (i := 5) (oi := ⟨some 42, _, _, _, _, _⟩) (v := ?vZu5) rfl (by kernel_rfl) (by kernel_rfl) (by kernel_rfl) (fun _ _ _ h => h) (Or.inl ⟨by rfl, ?yZu5⟩) (by assumption) ?rZu5
    case yZu5 => (intro w hSw; (try dsimp only at hSw); go_simp; try with_reducible rfl)
    try simp only [Act.put, List.setIfInBounds_toArray, List.set_cons_zero, List.set_cons_succ]
    refine wpAnyH_take (i := 6) (oi := ⟨some 43, _, _, _, _, _⟩) (v := ?vZu6) rfl (by kernel_rfl) (by kernel_rfl) (by kernel_rfl) (fun _ _ _ h => h) (Or.inl ⟨by rfl, ?yZu6⟩) (by assumption) ?rZu6
    case yZu6 => (intro w hSw; (try dsimp only at hSw); go_simp; try with_reducible rfl)
    try simp only [Act.put, List.setIfInBounds_toArray, List.set_cons_zero, List.set_cons_succ]
    refine wpAnyH_take (i := 7) (oi := ⟨some 44, _, _, _, _, _⟩) (v := ?vZu7) rfl (by kernel_rfl) (by kernel_rfl) (by kernel_rfl) (fun _ _ _ h => h) (Or.inl ⟨by rfl, ?yZu7⟩) (by assumption) ?rZu7
    case yZu7 => (intro w hSw; (try dsimp only at hSw); go_simp; try with_reducible rfl)
    try simp only [Act.put, List.setIfInBounds_toArray, List.set_cons_zero, List.set_cons_succ]
    refine wpAnyH_take (i := 8) (oi := ⟨some 45, _, _, _, _, _⟩) (v := ?vZu8) rfl (by kernel_rfl) (by kernel_rfl) (by kernel_rfl) (fun _ _ _ h => h) (Or.inl ⟨by rfl, ?yZu8⟩) (by assumption) ?rZu8
    case yZu8 => (intro w hSw; (try dsimp only at hSw); go_simp; try with_reducible rfl)
    try simp only [Act.put, List.setIfInBounds_toArray, List.set_cons_zero, List.set_cons_succ]
    refine wpAnyH_take (i := 9) (oi := ⟨some 46, _, _, _, _, _⟩) (v := ?vZu9) rfl (by kernel_rfl) (by kernel_rfl) (by kernel_rfl) (fun _ _ _ h => h) (Or.inl ⟨by rfl, ?yZu9⟩) (by assumption) ?rZu9
    case yZu9 => (intro w hSw; (try dsimp only at hSw); go_simp; try with_reducible rfl)
    try simp only [Act.put, List.setIfInBounds_toArray, List.set_cons_zero, List.set_cons_succ]
    refine wpAnyH_take (i := 10) (oi := ⟨some 47, _, _, _, _, _⟩) (v := ?vZu10) rfl (by kernel_rfl) (by kernel_rfl) (by kernel_rfl) (fun _ _ _ h => h) (Or.inl ⟨by rfl, ?yZu10⟩) (by assumption) ?rZu10
    case yZu10 => (intro w hSw; (try dsimp only at hSw); go_simp; try with_reducible rfl)
    try simp only [Act.put, List.setIfInBounds_toArray, List.set_cons_zero, List.set_cons_succ]
    refine wpAnyH_take (i := 11) (oi := ⟨some 48, _, _, _, _, _⟩) (v := ?vZu11) rfl (by kernel_rfl) (by kernel_rfl) (by kernel_rfl) (fun _ _ _ h => h) (Or.inl ⟨by rfl, ?yZu11⟩) (by assumption) ?rZu11
    case yZu11 => (intro w hSw; (try dsimp only at hSw); go_simp; try with_reducible rfl)
    try simp only [Act.put, List.setIfInBounds_toArray, List.set_cons_zero, List.set_cons_succ]
    refine wpAnyH_take (i := 12) (oi := ⟨some 49, _, _, _, _, _⟩) (v := ?vZu12) rfl (by kernel_rfl) (by kernel_rfl) (by kernel_rfl) (fun _ _ _ h => h) (Or.inl ⟨by rfl, ?yZu12⟩) (by assumption) ?rZu12
    case yZu12 => (intro w hSw; (try dsimp only at hSw); go_simp; try with_reducible rfl)
    try simp only [Act.put, List.setIfInBounds_toArray, List.set_cons_zero, List.set_cons_succ]
    refine wpAnyH_take (i := 13) (oi := ⟨some 50, _, _, _, _, _⟩) (v := ?vZu13) rfl (by kernel_rfl) (by kernel_rfl) (by kernel_rfl) (fun _ _ _ h => h) (Or.inl ⟨by rfl, ?yZu13⟩) (by assumption) ?rZu13
    case yZu13 => (intro w hSw; (try dsimp only at hSw); go_simp; try with_reducible rfl)
    try simp only [Act.put, List.setIfInBounds_toArray, List.set_cons_zero, List.set_cons_succ]
    refine wpAnyH_take (i := 14) (oi := ⟨some 51, _, _, _, _, _⟩) (v := ?vZu14) rfl (by kernel_rfl) (by kernel_rfl) (by kernel_rfl) (fun _ _ _ h => h) (Or.inl ⟨by rfl, ?yZu14⟩) (by assumption) ?rZu14
    case yZu14 => (intro w hSw; (try dsimp only at hSw); go_simp; try with_reducible rfl)
    try simp only [Act.put, List.setIfInBounds_toArray, List.set_cons_zero, List.set_cons_succ]
    refine wpAnyH_ready (rs := [4, 15]) (by kernel_rfl) (by simp) ?_
    refine AllReadyH.cons (o := ⟨some 41, _, _, _, _, _⟩) rfl (fun K hK => ?_) (AllReadyH.cons (o := ⟨some 52, _, _, _, _, _⟩) rfl (fun K hK => ?_) AllReadyH.nil)
    · go_simp
      refine hK.out _ _ ?kZla (fun hHeld => ?_)
      case kZla => exact HS.out _ HU0.out
      clear hK K
      try simp only [Act.put, List.setIfInBounds_toArray, List.set_cons_zero, List.set_cons_succ]
      refine wpAnyH_ready (rs := [15]) (by kernel_rfl) (by simp) ?_
      refine AllReadyH.cons (o := ⟨some 52, _, _, _, _, _⟩) rfl (fun K hK => ?_) AllReadyH.nil
      go_simp
      refine hK.out _ _ ?kZsa (fun hHeld => ?_)
      case kZsa => exact HS.out _ HU2.out
      clear hK K
      try simp only [Act.put, List.setIfInBounds_toArray, List.set_cons_zero, List.set_cons_succ]
      refine wpAnyH_ready (rs := [16]) (by kernel_rfl) (by simp) ?_
      refine AllReadyH.cons (o := ⟨some 53, _, _, _, _, _⟩) rfl (fun K hK => ?_) AllReadyH.nil
      refine wp_append_eq _ _ 62 rfl (.slice wa wl wc) _ _ rfl rfl HAP.out ?_
      refine hK.out _ _ ?kZap (fun hHeld => ?_)
      case kZap => exact HS2.out
      clear hK K
      try simp only [Act.put, List.setIfInBounds_toArray, List.set_cons_zero, List.set_cons_succ]
      refine wpAnyH_take (i := 17) (oi := ⟨some 54, _, _, _, _, _⟩) (v := ?vZu17a) rfl (by kernel_rfl) (by kernel_rfl) (by kernel_rfl) (fun _ _ _ h => h) (Or.inl ⟨by rfl, ?yZu17a⟩) (by assumption) ?rZu17a
      case yZu17a => (intro w hSw; (try dsimp only at hSw); go_simp; try with_reducible rfl)
      try simp only [Act.put, List.setIfInBounds_toArray, List.set_cons_zero, List.set_cons_succ]
      refine wpAnyH_take (i := 18) (oi := ⟨some 55, _, _, _, _, _⟩) (v := ?vZu18a) rfl (by kernel_rfl) (by kernel_rfl) (by kernel_rfl) (fun _ _ _ h => h) (Or.inl ⟨by rfl, ?yZu18a⟩) (by assumption) ?rZu18a
      case yZu18a => (intro w hSw; (try dsimp only at hSw); go_simp; try with_reducible rfl)
      try simp only [Act.put, List.setIfInBounds_toArray, List.set_cons_zero, List.set_cons_succ]
      refine wpAnyH_ready (rs := [19]) (by kernel_rfl) (by simp) ?_
      refine AllReadyH.cons (o := ⟨none, _, _, _, _, _⟩) rfl (fun K hK => ?_) AllReadyH.nil
      go_simp
      refine hK.out _ _ ?kZas (fun hHeld => ?_)
      case kZas => exact HS3.out
      clear hK K
      try simp only [Act.put, List.setIfInBounds_toArray, List.set_cons_zero, List.set_cons_succ]
      refine wpAnyH_done (by kernel_rfl) ?_ _
      clear HS HS2 HS3 HAP HU0 HU2
      go_wp2
      go_ret
      exact ⟨rfl, HEND.out⟩
    · go_simp
      refine hK.out _ _ ?kZsb (fun hHeld => ?_)
      case kZsb => exact HS.out _ HU2.out
      clear hK K
      try simp only [Act.put, List.setIfInBounds_toArray, List.set_cons_zero, List.set_cons_succ]
      refine wpAnyH_ready (rs := [4]) (by kernel_rfl) (by simp) ?_
      refine AllReadyH.cons (o := ⟨some 41, _, _, _, _, _⟩) rfl (fun K hK => ?_) AllReadyH.nil
      go_simp
      refine hK.out _ _ ?kZlb (fun hHeld => ?_)
      case kZlb => exact HS.out _ HU2.out
      clear hK K
      try simp only [Act.put, List.setIfInBounds_toArray, List.set_cons_zero, List.set_cons_succ]
      refine wpAnyH_ready (rs := [16]) (by kernel_rfl) (by simp) ?_
      refine AllReadyH.cons (o := ⟨some 53, _, _, _, _, _⟩) rfl (fun K hK => ?_) AllReadyH.nil
      refine wp_append_eq _ _ 62 rfl (.slice wa wl wc) _ _ rfl rfl HAP.out ?_
      refine hK.out _ _ ?kZbp (fun hHeld => ?_)
      case kZbp => exact HS2.out
      clear hK K
      try simp only [Act.put, List.setIfInBounds_toArray, List.set_cons_zero, List.set_cons_succ]
      refine wpAnyH_take (i := 17) (oi := ⟨some 54, _, _, _, _, _⟩) (v := ?vZu17b) rfl (by kernel_rfl) (by kernel_rfl) (by kernel_rfl) (fun _ _ _ h => h) (Or.inl ⟨by rfl, ?yZu17b⟩) (by assumption) ?rZu17b
      case yZu17b => (intro w hSw; (try dsimp only at hSw); go_simp; try with_reducible rfl)
      try simp only [Act.put, List.setIfInBounds_toArray, List.set_cons_zero, List.set_cons_succ]
      refine wpAnyH_take (i := 18) (oi := ⟨some 55, _, _, _, _, _⟩) (v := ?vZu18b) rfl (by kernel_rfl) (by kernel_rfl) (by kernel_rfl) (fun _ _ _ h => h) (Or.inl ⟨by rfl, ?yZu18b⟩) (by assumption) ?rZu18b
      case yZu18b => (intro w hSw; (try dsimp only at hSw); go_simp; try with_reducible rfl)
      try simp only [Act.put, List.setIfInBounds_toArray, List.set_cons_zero, List.set_cons_succ]
      refine wpAnyH_ready (rs := [19]) (by kernel_rfl) (by simp) ?_
      refine AllReadyH.cons (o := ⟨none, _, _, _, _, _⟩) rfl (fun K hK => ?_) AllReadyH.nil
      go_simp
      refine hK.out _ _ ?kZbs (fun hHeld => ?_)
      case kZbs => exact HS3.out
      clear hK K
      try simp only [Act.put, List.setIfInBounds_toArray, List.set_cons_zero, List.set_cons_succ]
      refine wpAnyH_done (by kernel_rfl) ?_ _
      clear HS HS2 HS3 HAP HU0 HU2
      go_wp2
      go_ret
      exact ⟨rfl, HEND.out⟩
end Go.Proofs.Ytfmgbmpdifjliaa
