/- The document's 'Replace' and 'Rot'. -/
import Derived.Test.YtfmgbmpdifjliaaRefNew
import Derived.Lib.ConvBytes
namespace Go.Proofs.Ytfmgbmpdifjliaa
open Go.RowKit
set_option linter.unusedVariables false

theorem strV_congr {n : Nat} {R S : Nat → List Nat} (h : ∀ i, i < n → R i = S i) : strV n R = strV n S := by
  unfold strV
  apply List.map_congr_left
  intro i hi
  rw [h i (List.mem_range.1 hi)]
theorem RD.congr {w : World} {r : RK} (h : RD w r) {S : Nat → List Nat} (hs : ∀ i, i < r.n → r.R i = S i) : RD w { r with R := S } :=
  ⟨h.head, by rw [show strV r.n S = strV r.n r.R from (strV_congr hs).symm]; exact h.slots, h.wait, h.le, fun i hi => by show (S i).length = 96; rw [show S i = r.R i from (hs i hi).symm]; exact h.lenR i hi, h.lenW, h.most⟩
set_option maxRecDepth 100000 in
set_option maxHeartbeats 3200000 in
theorem rreplace_any (r : RK) (w : World) (h : RD w r) :
    Calls Try.prog 34 #[.pointer (some ⟨r.m, 0, none⟩)] w fun e w' => e = .returned (.tuple #[]) ∧ RD w' { r with live := true, wa := none, wc := 0, ws := [], R := fun _ => zer 96 } ∧ Up r.foot w w' := by
  have HBL : Hid (∀ W, Calls Try.prog 48 #[] W fun e w' => e = .returned (.string (strOf (zer 96))) ∧ Up Nul W w') := blank_any
  obtain ⟨zs, ZS⟩ : ∃ z, Hid (strOf (zer 96) = z) := ⟨_, rfl⟩
  rw [ZS.out] at HBL
  have c1 := h.c1
  have f1 := h.fr 1
  have h1 := h.set1 true
  have c2 := h1.c2
  have f2 := h1.fr 2
  have h2 := h1.set2
  have H2 : Hid (RD ((w.setCell ⟨r.m, 1, none⟩ (.bool true)).setCell ⟨r.m, 2, none⟩ (.slice none 0 0)) { r with live := true, wa := none, wc := 0, ws := [], R := fun i => if i < 0 then zer 96 else r.R i }) := h2.congr fun i hi => by rw [if_neg (Nat.not_lt_zero i)]
  have U2 : Hid (Up r.foot w ((w.setCell ⟨r.m, 1, none⟩ (.bool true)).setCell ⟨r.m, 2, none⟩ (.slice none 0 0))) := ((Up.refl _ _).put (.inl rfl) 1 _).put (.inl rfl) 2 _
  dsimp only at c2 f2
  obtain ⟨m, M⟩ : ∃ m, Hid (r.m = m) := ⟨_, rfl⟩
  obtain ⟨n, N⟩ : ∃ n, Hid (r.n = n) := ⟨_, rfl⟩
  have HN : Hid (n ≤ 64) := by show _ ≤ _; rw [← N.out]; exact h.le
  rw [M.out] at c1 f1 c2 f2 H2 U2 ⊢
  generalize r.ws.length = wl at c2
  generalize r.wa = wa at c2
  generalize r.wc = wc at c2
  clear h h1 h2
  go_enter Try.func34, Try.ntmps34
  go_wp2_with fail
  generalize (w.setCell ⟨m, 1, none⟩ (.bool true)).setCell ⟨m, 2, none⟩ (.slice none 0 0) = w2 at H2 U2 ⊢
  go_loopw [2] (fun i wr => ∃ t : Nat, t ≤ n ∧ i = .int .i64 (t : Nat) ∧ RD wr { r with m := m, live := true, wa := none, wc := 0, ws := [], R := fun i => if i < t then zer 96 else r.R i } ∧ Up r.foot w wr) (fun i _ => n - (intOf i).toNat)
  case atStart => exact ⟨0, by omega, rfl, H2.out, U2.out⟩
  case round =>
    obtain ⟨t, ht, rfl, hd, hu⟩ := hrel
    have HD := hid hd
    have HU := hid hu
    clear hd hu H2 U2
    have y0 := HD.out.c0
    dsimp only at y0
    rw [N.out] at y0
    have i0 : (0 : Int) ≤ (t : Int) := by omega
    have hn64 : (n : Int) ≤ 64 := by have := HN.out; omega
    by_cases hlt : t < n
    · have i1 : (t : Int) < (n : Int) := by omega
      obtain ⟨sg, e1, e2, e3, x1, x2⟩ := HD.out.slot (s := t) (by show t < r.n; rw [N.out]; exact hlt)
      have e1 : r.sa = some ⟨sg, 0, none⟩ := e1
      rw [e1] at y0
      have HC : Hid (∀ wb, Up Nul wr wb → wb.cell? ⟨m, 0, none⟩ = some (.slice (some ⟨sg, 0, none⟩) n r.sc) ∧ (∃ v, wb.cell? ⟨sg, t, none⟩ = some v) ∧ wb.frozen? ⟨sg, t, none⟩ = false ∧ Hid ((wb.setCell ⟨sg, t, none⟩ (.string zs)).cell? ⟨m, 0, none⟩ = some (.slice (some ⟨sg, 0, none⟩) n r.sc) ∧ RD (wb.setCell ⟨sg, t, none⟩ (.string zs)) { r with m := m, live := true, wa := none, wc := 0, ws := [], R := fun i => if i < t + 1 then zer 96 else r.R i } ∧ Up r.foot w (wb.setCell ⟨sg, t, none⟩ (.string zs)))) := fun wb u => by
        have hd := HD.out.nxt u
        have h3 := hd.sets (s := t) (g := sg) (by show t < r.n; rw [N.out]; exact hlt) e1 (zer 96) (by simp [zer])
        rw [ZS.out] at h3
        have c0 := h3.c0
        dsimp only at c0
        rw [N.out, e1] at c0
        refine ⟨(u.cell (p := ⟨m, 0, none⟩) (lt_of_cell y0) id).trans y0, ⟨_, (u.cell (p := ⟨sg, t, none⟩) e2 id).trans x1⟩, (u.froz (p := ⟨sg, t, none⟩) e2 id).trans x2, c0, h3.congr fun i hi => ?_, (HU.out.trans u.nul).put (.inr (.inl (by rw [e1]; rfl))) t _⟩
        show upd _ t (zer 96) i = _
        unfold upd
        dsimp only
        by_cases e : i = t
        · rw [if_pos e, if_pos (by omega)]
        · rw [if_neg e]
          by_cases e' : i < t
          · rw [if_pos e', if_pos (by omega)]
          · rw [if_neg e', if_neg (by omega)]
      have HS : Hid (∀ W, Up Nul wr W → W.cell? ⟨m, 0, none⟩ = some (.slice (some ⟨sg, 0, none⟩) n r.sc)) := fun W u => (HC.out W u).1
      have HUD : Hid (Up Nul wr wr.drew) := (Up.refl _ _).drew
      have HT : Hid (t + 1 ≤ n) := hlt
      clear e1 e3 x1 x2 e2 c1 f1 c2 f2
      generalize r.sc = sc at y0 HC HS
      go_wp2_with fail
      refine wp_region_held_drew (S := fun W => W.cell? ⟨m, 0, none⟩ = some (.slice (some ⟨sg, 0, none⟩) n sc)) (by kernel_rfl) (by exact HS.out _ HUD.out) (fun hHeld => ?_)
      refine wpAnyH_take (i := 0) (oi := ⟨some 18, _, _, _, _, _⟩) (v := ?vp0) rfl (by kernel_rfl) (by kernel_rfl) (by kernel_rfl) (fun _ _ _ h => h) (Or.inl ⟨by rfl, ?yp0⟩) (by assumption) ?rp0
      case yp0 => (intro w hSw; (try dsimp only at hSw); go_simp; try with_reducible rfl)
      try simp only [Act.put, List.setIfInBounds_toArray, List.set_cons_zero, List.set_cons_succ]
      refine wpAnyH_take (i := 1) (oi := ⟨some 19, _, _, _, _, _⟩) (v := ?vp1) rfl (by kernel_rfl) (by kernel_rfl) (by kernel_rfl) (fun _ _ _ h => h) (Or.inl ⟨by rfl, ?yp1⟩) (by assumption) ?rp1
      case yp1 => (intro w hSw; (try dsimp only at hSw); go_simp; try with_reducible rfl)
      try simp only [Act.put, List.setIfInBounds_toArray, List.set_cons_zero, List.set_cons_succ]
      refine wpAnyH_take (i := 2) (oi := ⟨some 20, _, _, _, _, _⟩) (v := ?vp2) rfl (by kernel_rfl) (by kernel_rfl) (by kernel_rfl) (fun _ _ _ h => h) (Or.inl ⟨by rfl, ?yp2⟩) (by assumption) ?rp2
      case yp2 => (intro w hSw; (try dsimp only at hSw); go_simp; try with_reducible rfl)
      try simp only [Act.put, List.setIfInBounds_toArray, List.set_cons_zero, List.set_cons_succ]
      refine wpAnyH_take (i := 3) (oi := ⟨some 21, _, _, _, _, _⟩) (v := ?vp3) rfl (by kernel_rfl) (by kernel_rfl) (by kernel_rfl) (fun _ _ _ h => h) (Or.inl ⟨by rfl, ?yp3⟩) (by assumption) ?rp3
      case yp3 => (intro w hSw; (try dsimp only at hSw); go_simp; try with_reducible rfl)
      try simp only [Act.put, List.setIfInBounds_toArray, List.set_cons_zero, List.set_cons_succ]
      refine wpAnyH_take (i := 4) (oi := ⟨some 22, _, _, _, _, _⟩) (v := ?vp4) rfl (by kernel_rfl) (by kernel_rfl) (by kernel_rfl) (fun _ _ _ h => h) (Or.inl ⟨by rfl, ?yp4⟩) (by assumption) ?rp4
      case yp4 => (intro w hSw; (try dsimp only at hSw); go_simp; try with_reducible rfl)
      try simp only [Act.put, List.setIfInBounds_toArray, List.set_cons_zero, List.set_cons_succ]
      refine wpAnyH_ready (rs := [5]) (by kernel_rfl) (by simp) ?_
      refine AllReadyH.cons (o := ⟨some 23, _, _, _, _, _⟩) rfl (fun K hK => ?_) AllReadyH.nil
      go_simp
      refine (HBL.out _).mono ?_
      rintro e wb ⟨rfl, kb⟩
      have ob : Hid (Up Nul wr wb) := HUD.out.trans kb
      clear kb
      obtain ⟨_, ⟨vo, x1⟩, x2, HE⟩ := HC.out wb ob.out
      refine hK.out _ _ ?kc (fun hHeld => ?_)
      case kc => exact HS.out wb ob.out
      clear hK K
      try simp only [Act.put, List.setIfInBounds_toArray, List.set_cons_zero, List.set_cons_succ]
      refine wpAnyH_take (i := 6) (oi := ⟨some 24, _, _, _, _, _⟩) (v := ?vp6) rfl (by kernel_rfl) (by kernel_rfl) (by kernel_rfl) (fun _ _ _ h => h) (Or.inl ⟨by rfl, ?yp6⟩) (by assumption) ?rp6
      case yp6 => (intro w hSw; (try dsimp only at hSw); go_simp; try with_reducible rfl)
      try simp only [Act.put, List.setIfInBounds_toArray, List.set_cons_zero, List.set_cons_succ]
      refine wpAnyH_ready (rs := [7]) (by kernel_rfl) (by simp) ?_
      refine AllReadyH.cons (o := ⟨none, _, _, _, _, _⟩) rfl (fun K hK => ?_) AllReadyH.nil
      go_simp
      refine hK.out _ _ ?ks (fun hHeld => ?_)
      case ks => exact HE.out.1
      clear hK K
      try simp only [Act.put, List.setIfInBounds_toArray, List.set_cons_zero, List.set_cons_succ]
      refine wpAnyH_done (by kernel_rfl) ?_ _
      have HE2 := hid HE.out.2
      clear HE HC HS
      go_wp2
      go_roundw
      case rel => exact ⟨t + 1, HT.out, by go_num, HE2.out⟩
      case measure => simp only [intOf]; have := HT.out; omega
    · obtain rfl : t = n := by omega
      have HE : Hid (RD wr { r with m := m, live := true, wa := none, wc := 0, ws := [], R := fun _ => zer 96 }) := HD.out.congr fun i hi => by
        have hi : i < r.n := hi
        show (if i < t then zer 96 else r.R i) = zer 96
        rw [if_pos (by rw [← N.out]; exact hi)]
      clear HD
      go_wp2
      go_end0
      exact ⟨rfl, HE.out, HU.out⟩

/-! ### 'Rot' -/
theorem rrot_slot (r : RK) (x y : Int) (c : Nat) (w : World) (h : RD w r) (hs : x < 0 ∨ (r.n : Int) ≤ x) :
    Calls Try.prog 27 #[.pointer (some ⟨r.m, 0, none⟩), .int .i64 x, .int .i64 y, .int .u8 c] w fun e w' => e = .returned (.bool false) ∧ w' = w := by
  have HL := hid (rslot_out r x w h hs)
  generalize r.m = m at HL ⊢
  clear h hs
  go_enter Try.func27, Try.ntmps27
  go_wp2_with ((go_at_call 54; (with_reducible refine HL.out.mono ?_); rintro e w1 ⟨rfl, rfl⟩))
  go_ret
  exact ⟨rfl, rfl⟩
theorem rrot_byte (r : RK) (s : Nat) (y : Int) (c : Nat) (w : World) (h : RD w r) (hs : s < r.n) (hy : y < 0 ∨ 96 ≤ y) :
    Calls Try.prog 27 #[.pointer (some ⟨r.m, 0, none⟩), .int .i64 s, .int .i64 y, .int .u8 c] w fun e w' => e = .returned (.bool false) ∧ w' = w := by
  have HL := hid (rslot_in r s w h hs)
  generalize r.m = m at HL ⊢
  clear h hs
  by_cases h0 : y < 0
  · clear hy
    go_enter Try.func27, Try.ntmps27
    go_wp2_with ((go_at_call 54; (with_reducible refine HL.out.mono ?_); rintro e w1 ⟨rfl, rfl⟩))
    go_ret
    exact ⟨rfl, rfl⟩
  · have h1 : 95 < y := by omega
    clear hy
    go_enter Try.func27, Try.ntmps27
    go_wp2_with ((go_at_call 54; (with_reducible refine HL.out.mono ?_); rintro e w1 ⟨rfl, rfl⟩))
    go_ret
    exact ⟨rfl, rfl⟩
theorem rrot_gone (r : RK) (s t c : Nat) (w : World) (h : RD w r) (hs : s < r.n) (ht : t < 96) (hl : r.live = false) :
    Calls Try.prog 27 #[.pointer (some ⟨r.m, 0, none⟩), .int .i64 s, .int .i64 t, .int .u8 c] w fun e w' => e = .returned (.bool false) ∧ w' = w := by
  have HL := hid (rslot_in r s w h hs)
  have c1 := h.c1
  rw [hl] at c1
  have i1 : ¬ (95 : Int) < (t : Int) := by omega
  generalize r.m = m at HL c1 ⊢
  clear h hs hl
  go_enter Try.func27, Try.ntmps27
  go_wp2_with ((go_at_call 54; (with_reducible refine HL.out.mono ?_); rintro e w1 ⟨rfl, rfl⟩))
  go_ret
  exact ⟨rfl, rfl⟩
/-- Its pending write k, in memory. -/
theorem wcells_at : ∀ (ws : List Wt) (k : Nat) (hk : k < ws.length) (j : Nat) (hj : j < 3), (wcells ws)[k * 3 + j]? = (wcell ws[k])[j]?
  | [], k, hk, _, _ => absurd hk (Nat.not_lt_zero _)
  | x :: ws, k, hk, j, hj => by
    have e : wcells (x :: ws) = wcell x ++ wcells ws := by simp [wcells]
    rw [e]
    rcases k with _ | k
    · rw [List.getElem?_append_left (by rw [wcell_length]; omega)]
      simp
    · rw [List.getElem?_append_right (by rw [wcell_length]; omega), wcell_length, show (k + 1) * 3 + j - 3 = k * 3 + j by omega, wcells_at ws k (by simpa using hk) j hj]
      simp
theorem RD.wt {w : World} {r : RK} (h : RD w r) {k : Nat} (hk : k < r.ws.length) : ∃ g, r.wa = some ⟨g, 0, none⟩ ∧ g < w.heap.size ∧ (Value.slice r.wa r.ws.length r.wc).ownBlock = some g ∧
    w.cell? ⟨g, k * 3, none⟩ = some (.int .i64 ((r.ws[k].slot : Nat) : Int)) ∧ w.cell? ⟨g, k * 3 + 1, none⟩ = some (.string (strOf r.ws[k].was)) ∧ w.cell? ⟨g, k * 3 + 2, none⟩ = some (.string (strOf r.ws[k].now)) ∧ ∀ i, w.frozen? ⟨g, i, none⟩ = false := by
  obtain ⟨g, cur, e, hg, ht, _, _⟩ := own_row h.wait (by omega)
  have hc : ∀ j, j < 3 → w.cell? ⟨g, k * 3 + j, none⟩ = (wcell r.ws[k])[j]? := fun j hj => by
    rw [← wcells_at r.ws k hk j hj, ← ht, List.getElem?_take, if_pos (by omega)]
    simp only [World.cell?, hg]
    simp
  exact ⟨g, e, (Array.getElem?_eq_some_iff.1 hg).1, by rw [e]; rfl, hc 0 (by omega), hc 1 (by omega), hc 2 (by omega), fun i => by simp [World.frozen?, hg]⟩
theorem wcells_set : ∀ (ws : List Wt) (k : Nat) (hk : k < ws.length) (y : List Nat), (wcells ws).set (k * 3 + 2) (.string (strOf y)) = wcells (ws.set k { ws[k] with now := y })
  | [], k, hk, _ => absurd hk (Nat.not_lt_zero _)
  | x :: ws, k, hk, y => by
    have e : ∀ (x : Wt) (ws : List Wt), wcells (x :: ws) = wcell x ++ wcells ws := fun x ws => by simp [wcells]
    rcases k with _ | k
    · rw [e, List.set_cons_zero, e]
      rfl
    · rw [e, List.set_cons_succ, e, List.set_append_right _ _ (by rw [wcell_length]; omega), wcell_length, show (k + 1) * 3 + 2 - 3 = k * 3 + 2 by omega, wcells_set ws k (by simpa using hk) y]
      simp
/-- What is pending last is another. -/
theorem RD.setw {w : World} {r : RK} (h : RD w r) {k g : Nat} (hk : k < r.ws.length) (hg : r.wa = some ⟨g, 0, none⟩) (y : List Nat) (hy : y.length = 96) : RD (w.setCell ⟨g, k * 3 + 2, none⟩ (.string (strOf y))) { r with ws := r.ws.set k { r.ws[k] with now := y } } := by
  have hgo : (Value.slice r.wa r.ws.length r.wc).ownBlock = some g := by rw [hg]; rfl
  have n1 : g ≠ r.m := ne_own h.head h.wait (by decide) hgo
  have n2 : (Value.slice r.sa r.n r.sc).ownBlock ≠ some g := fun e => (h.slots_ne e).2 hgo
  have u := (Up.refl (One g) w).put rfl (k * 3 + 2) (.string (strOf y))
  obtain ⟨g', cur, e, hc, ht, hnc, hcs⟩ := own_row h.wait (by omega)
  obtain rfl : g' = g := by rw [hg] at e; injection e with e; injection e with e; exact e.symm
  have hln : (r.ws.set k { r.ws[k] with now := y }).length = r.ws.length := by simp
  refine ⟨?_, own_up h.slots u fun j hj e => n2 (by rw [hj]; exact congrArg some e), ?_, h.le, h.lenR, fun x hx => ?_, by show (r.ws.set k _).length ≤ 1000; rw [hln]; exact h.most⟩
  · rw [hln]
    exact (u.block _ h.lt (fun e => n1 e.symm)).trans h.head
  · rw [hln]
    refine ⟨by rw [← wcells_set r.ws k hk y, List.length_set]; exact h.wait.1, .inr ⟨g', r.wc, cur.setIfInBounds (k * 3 + 2) (.string (strOf y)), by simp [hg], Nat.zero_le _, heap_setCell_same w g' _ _ _ _ hc, hnc, ?_, by simpa using hcs, ?_⟩⟩
    · rcases h.wait.2 with ⟨e1, e2⟩ | ⟨g1, cap1, cur1, e1, _, e2, _, h4, _⟩
      · omega
      · injection e1 with _ _ e3
        rw [e3]
        exact h4
    · rw [Array.toList_setIfInBounds, List.take_set, ht]
      exact wcells_set r.ws k hk y
  · rcases List.mem_or_eq_of_mem_set hx with hx | rfl
    · exact h.lenW x hx
    · have := h.lenW _ (List.getElem_mem hk)
      exact ⟨this.1, this.2.1, hy⟩
end Go.Proofs.Ytfmgbmpdifjliaa
