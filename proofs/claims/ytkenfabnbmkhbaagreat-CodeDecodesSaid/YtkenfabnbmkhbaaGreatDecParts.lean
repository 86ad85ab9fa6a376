/- What the document's 'Decode' keeps while it gathers rows and bytes. -/
import Derived.Test.YtkenfabnbmkhbaaGreatDecFine
namespace Go.Proofs.YtkenfabnbmkhbaaGreat
open Go.RowKit
set_option linter.unusedVariables false

/-- The matrix of the code, the unit's above the parities'. -/
def stk (k r : Nat) (X Y : List Nat) : List Nat := unitZ k ++ coefZ k r X Y
theorem stk_length (k r : Nat) (X Y : List Nat) : (stk k r X Y).length = (k + r) * k := by
  unfold stk unitZ coefZ
  rw [List.length_append, tab_length, tab_length, Nat.add_mul]
theorem pickZ_grow (k c : Nat) (z : List Nat) (f : Nat → Nat) (h1 : 1 ≤ c) (hz : f k * c + c ≤ z.length) : pickZ (k + 1) c z f = pickZ k c z f ++ (z.drop (f k * c)).take c := by
  have hs : (k + 1) * c = k * c + c := by rw [Nat.add_mul, Nat.one_mul]
  have lr : ((z.drop (f k * c)).take c).length = c := by simp; omega
  refine ext_getD (by rw [List.length_append, lr]; unfold pickZ; rw [tab_length, tab_length, hs]) fun t ht => ?_
  have ht' : t < k * c + c := by unfold pickZ at ht; rw [tab_length, hs] at ht; exact ht
  have e1 : (pickZ (k + 1) c z f).getD t 0 = z.getD (f (t / c) * c + t % c) 0 := tab_at _ _ _ (by rw [hs]; exact ht')
  rw [e1]
  have lp : (pickZ k c z f).length = k * c := tab_length _ _
  simp only [List.getD_eq_getElem?_getD]
  by_cases h : t < k * c
  · rw [List.getElem?_append_left (by rw [lp]; exact h), ← List.getD_eq_getElem?_getD, ← List.getD_eq_getElem?_getD]
    exact (tab_at (k * c) (fun t => z.getD (f (t / c) * c + t % c) 0) t h).symm
  · obtain ⟨d, rfl⟩ : ∃ d, t = k * c + d := ⟨t - k * c, by omega⟩
    have hd : d < c := by omega
    rw [List.getElem?_append_right (by rw [lp]; omega), lp, Nat.add_sub_cancel_left, List.getElem?_take, if_pos hd, List.getElem?_drop]
    have e2 : (k * c + d) / c = k := by rw [Nat.mul_comm, Nat.mul_add_div (by omega), Nat.div_eq_of_lt hd, Nat.add_zero]
    have e3 : (k * c + d) % c = d := by rw [Nat.mul_comm, Nat.mul_add_mod, Nat.mod_eq_of_lt hd]
    rw [e2, e3]
/-- One more row. -/
theorem rows_next {k r i J : Nat} {X Y y : List Nat} {f : Nat → Nat} (k1 : 1 ≤ k) (hi : i < k + r) (hf : f J = i) (hl : y.length = k) (hy : ∀ s, s < k → y.getD s 0 = rowZ k r X Y i s) :
    pickZ (J + 1) k (stk k r X Y) f = pickZ J k (stk k r X Y) f ++ y := by
  have hle : i * k + k ≤ (stk k r X Y).length := by
    rw [stk_length]
    have := Nat.mul_le_mul_right k (show i + 1 ≤ k + r by omega)
    rw [Nat.add_mul, Nat.one_mul] at this
    exact this
  rw [pickZ_grow J k _ f k1 (by rw [hf]; exact hle), hf]
  congr 1
  refine (ext_getD (by rw [hl]; simp; omega) fun s hs => ?_).symm
  rw [hl] at hs
  rw [hy s hs, rowZ_stack hs]
  simp [List.getD_eq_getElem?_getD, hs, List.getElem?_drop, stk]
theorem pickZ_len (J k : Nat) (z : List Nat) (f : Nat → Nat) : (pickZ J k z f).length = J * k := tab_length _ _
theorem step_append_bytes {w : World} {ops : Array Oper} {o : Oper} {a : Act} {K : Act → World → Prop} {Q : Exit → Act → World → Prop} {E : Prop} (hgd : o.guard = none) (s x : Operand)
    (ho : o.op = .call { callee := .builtin .append, args := #[s, x], argTypes := #[22, 22] }) (base : Nat) (v : Value) (z : List Nat) (hs : a.eval s = v) (hown : OwnB base w v z)
    (b so n cap : Nat) (y : List Nat) (hx : a.eval x = .slice (some ⟨b, so, none⟩) n cap) (hr : Row w b so y) (hy : y.length = n) (hl : z.length + n ≤ 1000000) (hbase : base ≤ w.heap.size)
    (h : ∀ v' w', Hid (OwnB base w' v' (z ++ y)) → Hid (w.grownBy w' v.ownBlock) → K (a.put o.dst v') w') : if Region.wanted o (yielded ops a.tmps) = true then Oper.wp Tryz.prog o a w K Q else E := by
  have hw : Region.wanted o (yielded ops a.tmps) = true := by simp [Region.wanted, hgd]
  rw [if_pos hw]
  obtain ⟨i0, hi, hz0, hz1, hz2⟩ := info_parts info_u8
  obtain ⟨v', w', hrun, h1, h2, h3⟩ := run_append_own (P := Tryz.prog) w base 22 o.type 5 i0 (.int .u8 0) 1 1 Tryz.underlying22 hi hz0 hz1 hz2 rfl (by decide) v z.length _ hown.own ⟨b, so, none⟩ n cap (y.map fun (n : Nat) => Value.int .u8 (n : Int)) (by simp [hy])
    (by
      intro j u hu
      rw [List.getElem?_map] at hu
      have hj : j < y.length := by
        rcases Nat.lt_or_ge j y.length with h | h
        · exact h
        · rw [List.getElem?_eq_none h] at hu; cases hu
      rw [List.getElem?_eq_getElem hj] at hu
      have hc := hr.cells j hj
      rw [List.getD_eq_getElem?_getD, List.getElem?_eq_getElem hj] at hc
      have ea : Addr.add ⟨b, so, none⟩ j = ⟨b, so + j, none⟩ := by
        by_cases h0 : j = 0
        · subst h0; simp [Addr.add]
        · simp [Addr.add, h0]
      rw [ea, hc]
      exact hu)
    (by
      intro u hu
      obtain ⟨k, _, rfl⟩ := List.mem_map.1 hu
      rfl) (by unfold maxLen; omega) (by omega) hbase
  unfold Oper.wp
  simp [execOp, ho, resolve, invoke, builtin, hs, hx, hrun, Result.andThen]
  refine h v' w' ⟨by rw [List.length_append, List.map_append, hy]; exact h1, fun x hx => ?_⟩ h2
  rcases List.mem_append.1 hx with hx | hx
  · exact hown.small x hx
  · obtain ⟨i, hi, rfl⟩ := List.mem_iff_getElem.1 hx
    have := hr.small i
    rwa [List.getD_eq_getElem?_getD, List.getElem?_eq_getElem hi] at this
/-- A row of bytes of the call's own and a row of strings of its own lie apart. -/
theorem own_apart {b1 b2 : Nat} {w : World} {v u : Value} {z : List Nat} {xs : List Value} (h1 : OwnB b1 w v z) (h2 : OwnV 9 b2 w u xs) (g : Nat) (e1 : v.ownBlock = some g) (e2 : u.ownBlock = some g) : False := by
  rcases h1.own.2 with ⟨e, _⟩ | ⟨p, _, c1, e, _, a1, _⟩
  · subst e; cases e1
  · rcases h2.2 with ⟨e', _⟩ | ⟨q, _, c2, e', _, a2, _⟩
    · subst e'; cases e2
    · subst e; subst e'
      have p1 : p = g := by simpa [Value.ownBlock] using e1
      have p2 : q = g := by simpa [Value.ownBlock] using e2
      subst p1; subst p2
      rw [a1] at a2
      cases a2
theorem OwnB.apart {S : Nat → Prop} {base : Nat} {w w' : World} {v : Value} {z : List Nat} (h : OwnB base w v z) (u : Up S w w') (hs : ∀ g, v.ownBlock = some g → ¬ S g) : OwnB base w' v z := by
  refine ⟨⟨h.own.1, ?_⟩, h.small⟩
  rcases h.own.2 with hn | ⟨g, cap, cur, h1, h2, h3, h4⟩
  · exact .inl hn
  · exact .inr ⟨g, cap, cur, h1, h2, (u.block g (Array.getElem?_eq_some_iff.1 h3).1 (hs g (by rw [h1]; rfl))).trans h3, h4⟩
/-- The matrix that is gathered, and the bytes. -/
structure DI (W0 : World) (P k : Nat) (z : List Nat) (xs : List Value) (vm v2 : Value) (w : World) : Prop where
  m : w.heap[P]? = some (.cells #[.int .i64 k, .int .i64 k, vm] 100 (0, 0))
  own : OwnB (P + 1) w vm z
  frm : OwnV 9 (P + 1) w v2 xs
  up : Up Nul W0 w
  lo : W0.heap.size ≤ P
theorem DI.lt {W0 w : World} {P k : Nat} {z : List Nat} {xs : List Value} {vm v2 : Value} (h : DI W0 P k z xs vm v2 w) : P < w.heap.size := (Array.getElem?_eq_some_iff.1 h.m).1
theorem DI.start {W0 w : World} {k : Nat} (u : Up Nul W0 w) : DI W0 w.heap.size k [] [] (.slice none 0 0) (.slice none 0 0) (w.alloc (.cells #[.int .i64 k, .int .i64 k, .slice none 0 0] 100)) :=
  ⟨heap_alloc_new _ _, OwnB.nil _ _, OwnV.nil _ _ _, u.alloc _, u.size⟩
theorem DI.c0 {W0 w : World} {P k : Nat} {z : List Nat} {xs : List Value} {vm v2 : Value} (h : DI W0 P k z xs vm v2 w) : w.cell? ⟨P, 0, none⟩ = some (.int .i64 k) := by simp only [World.cell?, h.m]; rfl
theorem DI.c1 {W0 w : World} {P k : Nat} {z : List Nat} {xs : List Value} {vm v2 : Value} (h : DI W0 P k z xs vm v2 w) : w.cell? ⟨P, 1, none⟩ = some (.int .i64 k) := by simp only [World.cell?, h.m]; rfl
theorem DI.c2 {W0 w : World} {P k : Nat} {z : List Nat} {xs : List Value} {vm v2 : Value} (h : DI W0 P k z xs vm v2 w) : w.cell? ⟨P, 2, none⟩ = some vm := by simp only [World.cell?, h.m]; rfl
theorem DI.fr {W0 w : World} {P k : Nat} {z : List Nat} {xs : List Value} {vm v2 : Value} (h : DI W0 P k z xs vm v2 w) (j : Nat) : w.frozen? ⟨P, j, none⟩ = false := by simp [World.frozen?, h.m]
theorem DI.nxt {W0 w w' : World} {P k : Nat} {z : List Nat} {xs : List Value} {vm v2 : Value} (h : DI W0 P k z xs vm v2 w) (u : Up Nul w w') : DI W0 P k z xs vm v2 w' :=
  ⟨(u.block P h.lt id).trans h.m, h.own.up u fun _ _ => id, OwnV.up h.frm u fun _ _ _ => id, h.up.trans u, h.lo⟩
/-- Behind 'm.Cells = append(m.Cells, row...)'. -/
theorem DI.row {W0 w w' : World} {P k : Nat} {z z2 : List Nat} {xs : List Value} {vm v2 v' : Value} (h : DI W0 P k z xs vm v2 w) (ho : OwnB (P + 1) w' v' z2) (hg : w.grownBy w' vm.ownBlock) :
    w'.heap[P]? = some (.cells #[.int .i64 k, .int .i64 k, vm] 100 (0, 0)) ∧ DI W0 P k z2 xs v' v2 (w'.setCell ⟨P, 2, none⟩ v') := by
  have hP : vm.ownBlock ≠ some P := fun e => by have := h.own.base P e; omega
  have hm : w'.heap[P]? = some (.cells #[.int .i64 k, .int .i64 k, vm] 100 (0, 0)) := (hg.block P h.lt fun e => hP e.symm).trans h.m
  have u1 : Up (One P) w' (w'.setCell ⟨P, 2, none⟩ v') := (Up.refl _ _).setCell (p := ⟨P, 2, none⟩) (.inr (show One P P from rfl)) _
  have hfr : OwnV 9 (P + 1) w' v2 xs := OwnV.apart h.frm (Up.ofg hg) fun g e1 e2 => own_apart h.own h.frm g e2.symm e1
  refine ⟨hm, heap_set_same hm 2 v', ho.apart u1 fun g e1 e2 => ?_, OwnV.apart hfr u1 fun g e1 e2 => ?_, ?_, h.lo⟩
  · unfold One at e2
    have := ho.base g e1
    omega
  · unfold One at e2
    have := OwnV.base h.frm g e1
    omega
  · refine (h.up.grown hg fun q e => ?_).setCell (p := ⟨P, 2, none⟩) (.inl h.lo) _
    have := h.own.base q e
    have := h.lo
    omega
/-- Behind 'from = append(from, bytes)'. -/
theorem DI.str {W0 w w' : World} {P k : Nat} {z : List Nat} {xs ys : List Value} {vm v2 v' : Value} {o : Obj} (h : DI W0 P k z xs vm v2 w) (ho : OwnV 9 (P + 1) w' v' ys) (hg : (w.alloc o).grownBy w' v2.ownBlock) :
    DI W0 P k z ys vm v' w' := by
  have h2 := h.nxt ((Up.refl Nul w).alloc o)
  have hP : v2.ownBlock ≠ some P := fun e => by have := OwnV.base h.frm P e; omega
  refine ⟨(hg.block P h2.lt fun e => hP e.symm).trans h2.m, h2.own.apart (Up.ofg hg) fun g e1 e2 => own_apart h2.own h2.frm g e1 e2.symm, ho, h2.up.grown hg fun q e => ?_, h.lo⟩
  have := OwnV.base h.frm q e
  have := h.lo
  omega
theorem OwnB.shp {base : Nat} {w : World} {v : Value} {z : List Nat} (h : OwnB base w v z) : ∃ a cap, v = .slice a z.length cap := by
  rcases h.own.2 with ⟨e, e0⟩ | ⟨g, cap, cur, e, _⟩
  · exact ⟨none, 0, by rw [e, e0]⟩
  · exact ⟨_, _, e⟩
theorem Up.fresh1 {a b c : World} {g : Nat} (h : Up Nul a b) (u : Up (One g) b c) (hg : a.heap.size ≤ g) : Up Nul a c :=
  ⟨u.os.trans h.os, u.tape.trans h.tape, u.output.trans h.output, Nat.le_trans h.size u.size, fun k hk _ => (u.block k (Nat.lt_of_lt_of_le hk h.size) (by unfold One; omega)).trans (h.block k hk id)⟩
theorem strV_two (k r : Nat) (A B : Nat → List Nat) : strV (k + r) (two k A B) = strV k A ++ strV r B := by
  unfold strV
  rw [List.range_add, List.map_append, List.map_map]
  congr 1
  · exact List.map_congr_left fun t ht => by
      have := List.mem_range.1 ht
      unfold two
      rw [if_pos this]
  · exact List.map_congr_left fun t ht => by
      show Value.string (strOf (two k A B (k + t))) = _
      unfold two
      rw [if_neg (by omega), Nat.add_sub_cancel_left]
theorem strV_congr {n : Nat} {A B : Nat → List Nat} (h : ∀ t, t < n → A t = B t) : strV n A = strV n B := by
  unfold strV
  exact List.map_congr_left fun t ht => by rw [h t (List.mem_range.1 ht)]
theorem strV_one (n : Nat) (R : Nat → List Nat) : ∀ u ∈ strV n R, u.oneCell' = true := fun u hu => by
  unfold strV at hu
  obtain ⟨t, _, rfl⟩ := List.mem_map.1 hu
  rfl
theorem pickZ_none (k : Nat) (z : List Nat) (f : Nat → Nat) : pickZ 0 k z f = [] := by
  unfold pickZ tab
  rw [Nat.zero_mul]
  rfl
end Go.Proofs.YtkenfabnbmkhbaaGreat
