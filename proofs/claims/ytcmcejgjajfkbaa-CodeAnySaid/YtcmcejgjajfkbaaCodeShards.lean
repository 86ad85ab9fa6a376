/- The statements' own 'Shards'. -/
import Derived.Test.YtcmcejgjajfkbaaCodeStr
namespace Go.Proofs.Ytcmcejgjajfkbaa
open Go.RowKit
set_option linter.unusedVariables false

/-- A row of its own, of one shard each two cells. -/
def OwnS (base : Nat) (w : World) (v : Value) (n : Nat) (ys : List Value) : Prop := w.ownsRow base 103 2 v n ys
theorem OwnS.nil (base : Nat) (w : World) : OwnS base w (.slice none 0 0) 0 [] := World.ownsRow_nil _ _ _ _
theorem OwnS.alloc {base n : Nat} {w : World} {v : Value} {ys : List Value} (h : OwnS base w v n ys) (o : Obj) : OwnS base (w.alloc o) v n ys := World.ownsRow.alloc h o
theorem OwnS.apart {S : Nat → Prop} {base n : Nat} {w w' : World} {v : Value} {xs : List Value} (h : OwnS base w v n xs) (u : Up S w w') (hs : ∀ g, v.ownBlock = some g → ¬ S g) : OwnS base w' v n xs := by
  refine ⟨h.1, ?_⟩
  rcases h.2 with hn | ⟨g, cap, cur, h1, h2, h3, h4⟩
  · exact .inl hn
  · exact .inr ⟨g, cap, cur, h1, h2, (u.block g (Array.getElem?_eq_some_iff.1 h3).1 (hs g (by rw [h1]; rfl))).trans h3, h4⟩
theorem OwnS.base {base n : Nat} {w : World} {v : Value} {xs : List Value} (h : OwnS base w v n xs) : ∀ k, v.ownBlock = some k → base ≤ k := fun k hk => (World.ownsRow.lt h k hk).1
theorem info_shard : ∃ i z, Try.prog.info? 103 = some i ∧ i.zero = some z ∧ i.size = 2 ∧ i.bytes ≤ 24 ∧ z.cells.size = 2 := by
  have h : (Try.prog.info? 103).map (fun i => (i.size, Nat.ble i.bytes 24, i.zero.map fun z => z.cells.size)) = some (2, true, some 2) := by kernel_rfl
  cases e : Try.prog.info? 103 with
  | none => rw [e] at h; cases h
  | some i =>
    rw [e] at h
    simp only [Option.map_some, Option.some.injEq, Prod.mk.injEq, Option.map_eq_some_iff] at h
    obtain ⟨h1, h2, z, h3, h4⟩ := h
    exact ⟨i, z, rfl, h3, h1, Nat.le_of_ble_eq_true h2, h4⟩
theorem two_cells {w : World} {ad : Addr} {x0 x1 : Value} (h0 : w.cell? ad = some x0) (h1 : w.cell? (ad.add 1) = some x1) : ∀ j u, [x0, x1][j]? = some u → w.cell? (ad.add j) = some u := fun j u hj => by
  match j, hj with
  | 0, hj => simp at hj; subst hj; simpa [Addr.add] using h0
  | 1, hj => simp at hj; subst hj; exact h1
theorem wp_append_shard {w : World} {o : Oper} {a : Act} {K : Act → World → Prop} {Q : Exit → Act → World → Prop} (s x : Operand)
    (ho : o.op = .call { callee := .builtin .append, args := #[s, x], argTypes := #[54, 54] }) (base n : Nat) (v : Value) (ys : List Value) (hs : a.eval s = v) (hown : OwnS base w v n ys)
    (bk : Nat) (cap : Nat) (x0 x1 : Value) (hx : a.eval x = .slice (some ⟨bk, 0, none⟩) 1 cap) (h0 : w.cell? ⟨bk, 0, none⟩ = some x0) (h1 : w.cell? ⟨bk, 1, none⟩ = some x1) (o0 : x0.oneCell' = true) (o1 : x1.oneCell' = true) (hl : n ≤ 1000000) (hbase : base ≤ w.heap.size)
    (h : ∀ v' w', Hid (OwnS base w' v' (n + 1) (ys ++ [x0, x1])) → Hid (w.grownBy w' v.ownBlock) → K (a.put o.dst v') w') : Oper.wp Try.prog o a w K Q := by
  obtain ⟨i0, z0, hi, hz, hz1, hz2, hz3⟩ := info_shard
  obtain ⟨v', w', hrun, g1, g2, _⟩ := run_append_own (P := Try.prog) w base 54 o.type 103 i0 z0 2 i0.bytes Try.underlying54 hi hz hz1 rfl hz3 (by decide) v n ys hown ⟨bk, 0, none⟩ 1 cap [x0, x1] rfl (two_cells h0 h1)
    (fun u hu => by
      cases hu with
      | head => exact o0
      | tail _ hu => cases hu with
        | head => exact o1
        | tail _ hu => cases hu) (by unfold maxLen; omega) (by
      have := Nat.mul_le_mul (show n + 1 ≤ 1000001 by omega) hz2
      omega) hbase
  unfold Oper.wp
  simp [execOp, ho, resolve, invoke, builtin, hs, hx, hrun, Result.andThen]
  exact h v' w' g1 g2
theorem wpList_append_shard {w : World} {ops : Array Oper} {rest : List Oper} {o : Oper} {a : Act} {Q : Exit → Act → World → Prop} (hgd : o.guard = none) (s x : Operand)
    (ho : o.op = .call { callee := .builtin .append, args := #[s, x], argTypes := #[54, 54] }) (base n : Nat) (v : Value) (ys : List Value) (hs : a.eval s = v) (hown : OwnS base w v n ys)
    (bk : Nat) (cap : Nat) (x0 x1 : Value) (hx : a.eval x = .slice (some ⟨bk, 0, none⟩) 1 cap) (h0 : w.cell? ⟨bk, 0, none⟩ = some x0) (h1 : w.cell? ⟨bk, 1, none⟩ = some x1) (o0 : x0.oneCell' = true) (o1 : x1.oneCell' = true) (hl : n ≤ 1000000) (hbase : base ≤ w.heap.size)
    (h : ∀ v' w', Hid (OwnS base w' v' (n + 1) (ys ++ [x0, x1])) → Hid (w.grownBy w' v.ownBlock) → wpList Try.prog ops Q rest (a.put o.dst v') w') : wpList Try.prog ops Q (o :: rest) a w :=
  wpList_plain hgd fun _ hK => wp_append_shard s x ho base n v ys hs hown bk cap x0 x1 hx h0 h1 o0 o1 hl hbase fun v' w' g1 g2 => hK _ _ (h v' w' g1 g2)
theorem step_append_shard {w : World} {ops : Array Oper} {o : Oper} {a : Act} {K : Act → World → Prop} {Q : Exit → Act → World → Prop} {E : Prop} (hgd : o.guard = none) (s x : Operand)
    (ho : o.op = .call { callee := .builtin .append, args := #[s, x], argTypes := #[54, 54] }) (base n : Nat) (v : Value) (ys : List Value) (hs : a.eval s = v) (hown : OwnS base w v n ys)
    (bk : Nat) (cap : Nat) (x0 x1 : Value) (hx : a.eval x = .slice (some ⟨bk, 0, none⟩) 1 cap) (h0 : w.cell? ⟨bk, 0, none⟩ = some x0) (h1 : w.cell? ⟨bk, 1, none⟩ = some x1) (o0 : x0.oneCell' = true) (o1 : x1.oneCell' = true) (hl : n ≤ 1000000) (hbase : base ≤ w.heap.size)
    (h : ∀ v' w', Hid (OwnS base w' v' (n + 1) (ys ++ [x0, x1])) → Hid (w.grownBy w' v.ownBlock) → K (a.put o.dst v') w') : if Region.wanted o (yielded ops a.tmps) = true then Oper.wp Try.prog o a w K Q else E := by
  have hw : Region.wanted o (yielded ops a.tmps) = true := by simp [Region.wanted, hgd]
  rw [if_pos hw]
  exact wp_append_shard s x ho base n v ys hs hown bk cap x0 x1 hx h0 h1 o0 o1 hl hbase h
/-- append(a, one slice), at a step of a region that draws. -/
theorem step_append_one {w : World} {ops : Array Oper} {o : Oper} {a : Act} {K : Act → World → Prop} {Q : Exit → Act → World → Prop} {E : Prop} (hgd : o.guard = none) (s x : Operand)
    (ho : o.op = .call { callee := .builtin .append, args := #[s, x], argTypes := #[33, 33] }) (base : Nat) (v : Value) (xs : List Value) (hs : a.eval s = v) (hown : OwnV 22 base w v xs)
    (ad : Addr) (cap : Nat) (y : Value) (hx : a.eval x = .slice (some ad) 1 cap) (hc : w.cell? ad = some y) (h1 : y.oneCell' = true) (hl : xs.length + 1 ≤ 1000000) (hbase : base ≤ w.heap.size)
    (h : ∀ v' w', Hid (OwnV 22 base w' v' (xs ++ [y])) → Hid (w.grownBy w' v.ownBlock) → K (a.put o.dst v') w') : if Region.wanted o (yielded ops a.tmps) = true then Oper.wp Try.prog o a w K Q else E := by
  have hw : Region.wanted o (yielded ops a.tmps) = true := by simp [Region.wanted, hgd]
  rw [if_pos hw]
  obtain ⟨i0, hi, hz0, hz2, hz3⟩ := info_parts info_sl
  obtain ⟨v', w', hrun, g1, g2, _⟩ := run_append_own (P := Try.prog) w base 33 o.type 22 i0 _ 1 24 Try.underlying33 hi hz0 hz2 hz3 rfl (by decide) v xs.length xs hown ad 1 cap [y] rfl
    (fun j u hj => by
      match j, hj with
      | 0, hj => simp at hj; subst hj; simpa [Addr.add] using hc)
    (fun u hu => by
      cases hu with
      | head => exact h1
      | tail _ hu => cases hu) (by unfold maxLen; omega) (by omega) hbase
  unfold Oper.wp
  simp [execOp, ho, resolve, invoke, builtin, hs, hx, hrun, Result.andThen]
  refine h v' w' ?_ g2
  show w'.ownsRow base _ 1 v' (xs ++ [y]).length (xs ++ [y])
  rw [List.length_append]
  exact g1
/-- append(s, y...) of bytes onto a slice that is there, at a step of a region that draws. -/
theorem step_append_there {w : World} {ops : Array Oper} {o : Oper} {a : Act} {K : Act → World → Prop} {Q : Exit → Act → World → Prop} {E : Prop} (hgd : o.guard = none) (s x : Operand)
    (ho : o.op = .call { callee := .builtin .append, args := #[s, x], argTypes := #[22, 22] }) (base : Nat) (v : Value) (z : List Nat) (hs : a.eval s = v) (hown : OwnB base w v z) (hv : v ≠ .slice none 0 0)
    (b so n cap : Nat) (y : List Nat) (hx : a.eval x = .slice (some ⟨b, so, none⟩) n cap) (hr : Row w b so y) (hy : y.length = n) (hl : z.length + n ≤ 1000000) (hbase : base ≤ w.heap.size)
    (h : ∀ v' w', Hid (OwnB base w' v' (z ++ y) ∧ v' ≠ .slice none 0 0) → Hid (w.grownBy w' v.ownBlock) → K (a.put o.dst v') w') : if Region.wanted o (yielded ops a.tmps) = true then Oper.wp Try.prog o a w K Q else E := by
  have hw : Region.wanted o (yielded ops a.tmps) = true := by simp [Region.wanted, hgd]
  rw [if_pos hw]
  obtain ⟨i0, hi, hz0, hz1, hz2⟩ := info_parts info_u8
  obtain ⟨v', w', hrun, h1, h2, h3⟩ := run_append_own (P := Try.prog) w base 22 o.type 5 i0 (.int .u8 0) 1 1 Try.underlying22 hi hz0 hz1 hz2 rfl (by decide) v z.length _ hown.own ⟨b, so, none⟩ n cap (y.map fun (n : Nat) => Value.int .u8 (n : Int)) (by simp [hy])
    (by
      intro j u hu
      rw [List.getElem?_map] at hu
      have hj : j < y.length := by
        rcases Nat.lt_or_ge j y.length with h | h
        · exact h
        · rw [List.getElem?_eq_none h] at hu; cases hu
      rw [List.getElem?_eq_getElem hj] at hu
      have hc := hr.cells j hj
      rw [List.getD_eq_getElem?_getD, List.getElem?_eq_getElem hj] at hc
      have ea : Addr.add ⟨b, so, none⟩ j = ⟨b, so + j, none⟩ := by
        by_cases h0 : j = 0
        · subst h0; simp [Addr.add]
        · simp [Addr.add, h0]
      rw [ea, hc]
      exact hu)
    (by
      intro u hu
      obtain ⟨k, _, rfl⟩ := List.mem_map.1 hu
      rfl) (by unfold maxLen; omega) (by omega) hbase
  unfold Oper.wp
  simp [execOp, ho, resolve, invoke, builtin, hs, hx, hrun, Result.andThen]
  refine h v' w' ⟨⟨by rw [List.length_append, List.map_append, hy]; exact h1, fun x hx => ?_⟩, fun e => hv (h3.1 e).1⟩ h2
  rcases List.mem_append.1 hx with hx | hx
  · exact hown.small x hx
  · obtain ⟨i, hi, rfl⟩ := List.mem_iff_getElem.1 hx
    have := hr.small i
    rwa [List.getD_eq_getElem?_getD, List.getElem?_eq_getElem hi] at this

/-- A shard's own block of bytes, its row at the beginning. -/
structure Pc (w : World) (b : Nat) (z : List Nat) : Prop where
  heap : ∃ cur, w.heap[b]? = some (.cells cur 5 (0, 0))
  row : Row w b 0 z
theorem Pc.lt {w : World} {b : Nat} {z : List Nat} (h : Pc w b z) : b < w.heap.size := by
  obtain ⟨cur, h⟩ := h.heap
  exact (Array.getElem?_eq_some_iff.1 h).1
theorem Pc.up {S : Nat → Prop} {w w' : World} {b : Nat} {z : List Nat} (h : Pc w b z) (u : Up S w w') (hs : ¬ S b) : Pc w' b z := by
  refine ⟨?_, h.row.up u h.lt hs⟩
  obtain ⟨cur, e⟩ := h.heap
  exact ⟨cur, (u.block b h.lt hs).trans e⟩
theorem OwnB.pc {base : Nat} {w : World} {v : Value} {z : List Nat} (h : OwnB base w v z) (hv : v ≠ .slice none 0 0) : ∃ g cap, v = .slice (some ⟨g, 0, none⟩) z.length cap ∧ base ≤ g ∧ Pc w g z := by
  rcases h.own.2 with ⟨e, _⟩ | ⟨g, cap, cur, h1, h2, h3, h4, h5, h6, h7⟩
  · exact absurd e hv
  · refine ⟨g, cap, h1, h2, ⟨cur, h3⟩, ⟨fun i hi => ?_, fun i => small_getD h.small i⟩⟩
    have hc : cur[i]? = some (.int .u8 (z.getD i 0)) := by
      have e : (cur.toList.take (z.length * 1))[i]? = some (.int .u8 (z.getD i 0)) := by
        rw [h7, List.getElem?_map, List.getElem?_eq_getElem hi]
        simp [List.getD_eq_getElem?_getD, List.getElem?_eq_getElem hi]
      rw [List.getElem?_take, if_pos (by omega)] at e
      simpa using e
    simp only [World.cell?, h3, Nat.zero_add]
    exact hc
theorem OwnV.ne_pc {base : Nat} {w : World} {v : Value} {xs : List Value} {b : Nat} {z : List Nat} (h : OwnV 22 base w v xs) (hb : Pc w b z) : v.ownBlock ≠ some b := by
  intro e
  obtain ⟨cur2, hc⟩ := hb.heap
  rcases h.2 with ⟨e2, _⟩ | ⟨g, cap, cur, e2, _, h3, _⟩
  · subst e2; cases e
  · subst e2
    have : g = b := by simpa [Value.ownBlock] using e
    subst this
    rw [hc] at h3
    cases h3
theorem OwnS.ne_pc {base n : Nat} {w : World} {v : Value} {xs : List Value} {b : Nat} {z : List Nat} (h : OwnS base w v n xs) (hb : Pc w b z) : v.ownBlock ≠ some b := by
  intro e
  obtain ⟨cur2, hc⟩ := hb.heap
  rcases h.2 with ⟨e2, _⟩ | ⟨g, cap, cur, e2, _, h3, _⟩
  · subst e2; cases e
  · subst e2
    have : g = b := by simpa [Value.ownBlock] using e
    subst this
    rw [hc] at h3
    cases h3
theorem OwnV.ne_s {base base2 n : Nat} {w : World} {v u : Value} {xs ys : List Value} (h : OwnV 22 base w v xs) (h2 : OwnS base2 w u n ys) (q : Nat) (e1 : v.ownBlock = some q) (e2 : u.ownBlock = some q) : False := by
  rcases h.2 with ⟨e, _⟩ | ⟨g, cap, cur, e, _, h3, _⟩
  · subst e; cases e1
  · subst e
    have e3 : g = q := by simpa [Value.ownBlock] using e1
    rcases h2.2 with ⟨e, _⟩ | ⟨g2, cap2, cur2, e, _, h4, _⟩
    · subst e; cases e2
    · subst e
      have e4 : g2 = q := by simpa [Value.ownBlock] using e2
      rw [e3] at h3
      rw [e4, h3] at h4
      cases h4

/-! ### What is made -/
/-- Which shards are there: those whose bit is nought. -/
def outS (x : Nat → Bool) (R : Nat → List Nat) (i : Nat) : Option (List Nat) := if x i = true then none else some (R i)
/-- The same, as cells. -/
def shC (x : Nat → Bool) (R : Nat → List Nat) : Nat → List Value
  | 0 => []
  | t + 1 => shC x R t ++ (if x t = true then [.string ByteArray.empty, .bool false] else [.string (strOf (R t)), .bool true])
/-- A shard that lies in a block of its own. -/
def Shp (w W : World) (v : Value) : Option (List Nat) → Prop
  | none => v = .slice none 0 0
  | some z => ∃ b cap, v = .slice (some ⟨b, 0, none⟩) z.length cap ∧ Pc w b z ∧ W.heap.size ≤ b
theorem Shp.up {S : Nat → Prop} {w w' W : World} {v : Value} {x : Option (List Nat)} (h : Shp w W v x) (u : Up S w w') (hs : ∀ b z, Pc w b z → ¬ S b) : Shp w' W v x := by
  cases x with
  | none => exact h
  | some z =>
    obtain ⟨b, cap, e, p, hb⟩ := h
    exact ⟨b, cap, e, p.up u (hs b z p), hb⟩
/-- t shards are made. -/
structure Mds (W : World) (x : Nat → Bool) (t : Nat) (R : Nat → List Nat) (v1 v2 : Value) (xs : List Value) (w : World) : Prop where
  own : OwnV 22 W.heap.size w v1 xs
  two : OwnS W.heap.size w v2 t (shC x R t)
  len : xs.length = t
  is : ∀ i, i < t → ∃ v, xs[i]? = some v ∧ Shp w W v (outS x R i)
  up : Up Nul W w
theorem Mds.start (W : World) (x : Nat → Bool) (R : Nat → List Nat) : Mds W x 0 R (.slice none 0 0) (.slice none 0 0) [] W :=
  ⟨OwnV.nil _ _ _, OwnS.nil _ _, rfl, fun _ h => absurd h (Nat.not_lt_zero _), Up.refl _ _⟩
/-- One more: both rows grown, the rest as it was. -/
theorem Mds.next {W w w' : World} {x : Nat → Bool} {t : Nat} {R : Nat → List Nat} {v1 v2 u1 u2 v : Value} {xs c : List Value} (h : Mds W x t R v1 v2 xs w) (u : Up (fun q => some q = v1.ownBlock ∨ some q = v2.ownBlock) w w')
    (h1 : OwnV 22 W.heap.size w' u1 (xs ++ [v])) (h2 : OwnS W.heap.size w' u2 (t + 1) (shC x R t ++ c)) (hv : Shp w' W v (outS x R t)) (hc : c = if x t = true then [.string ByteArray.empty, .bool false] else [.string (strOf (R t)), .bool true]) : Mds W x (t + 1) R u1 u2 (xs ++ [v]) w' := by
  refine ⟨h1, by rw [shC, ← hc]; exact h2, by rw [List.length_append, h.len]; rfl, fun i hi => ?_, ?_⟩
  · rcases Nat.lt_or_ge i t with hlt | hge
    · obtain ⟨y, hy, hs⟩ := h.is i hlt
      refine ⟨y, by rw [List.getElem?_append_left (by rw [h.len]; exact hlt)]; exact hy, hs.up u fun b z p e => ?_⟩
      rcases e with e | e
      · exact h.own.ne_pc p e.symm
      · exact h.two.ne_pc p e.symm
    · have : i = t := by omega
      subst this
      exact ⟨v, by rw [List.getElem?_append_right (by rw [h.len]; exact Nat.le_refl _), h.len, Nat.sub_self]; rfl, hv⟩
  · exact ⟨u.os.trans h.up.os, u.tape.trans h.up.tape, u.output.trans h.up.output, Nat.le_trans h.up.size u.size, fun k hk hs => (u.block k (Nat.lt_of_lt_of_le hk h.up.size) fun e => by
      rcases e with e | e
      · have := h.own.base k e.symm; omega
      · have := h.two.base k e.symm; omega).trans (h.up.block k hk hs)⟩

/-- Between the two appends of a round: the row of slices vA (it was u1), the row of shards vB (it was u2). -/
structure Mid (B base n : Nat) (W : World) (u1 u2 vA vB : Value) (xs ys : List Value) (w : World) : Prop where
  a : OwnV 22 base w vA xs
  b : OwnS base w vB n ys
  up : Up (fun q => some q = u1.ownBlock ∨ some q = u2.ownBlock) W w
  le : base ≤ W.heap.size
theorem Mid.alloc {B base n : Nat} {W w : World} {u1 u2 vA vB : Value} {xs ys : List Value} (h : Mid B base n W u1 u2 vA vB xs ys w) (o : Obj) : Mid B base n W u1 u2 vA vB xs ys (w.alloc o) :=
  ⟨OwnV.alloc h.a o, h.b.alloc o, h.up.alloc o, h.le⟩
theorem Mid.drew {B base n : Nat} {W w : World} {u1 u2 vA vB : Value} {xs ys : List Value} (h : Mid B base n W u1 u2 vA vB xs ys w) : Mid B base n W u1 u2 vA vB xs ys w.drew :=
  ⟨OwnV.drewN h.a 1, h.b, h.up.drew, h.le⟩
theorem cell_two (w : World) (o : Obj) (cs : Array Value) (T : TypeId) (i : Nat) : ((w.alloc o).alloc (.cells cs T)).cell? ⟨w.heap.size + 1, i, none⟩ = cs[i]? := by
  have h := World.cell?_alloc_new (w.alloc o) cs T i
  rw [show (w.alloc o).heap.size = w.heap.size + 1 by simp] at h
  exact h
theorem cell_one (w : World) (o : Obj) (cs : Array Value) (T : TypeId) (i : Nat) : ((w.alloc (.cells cs T)).alloc o).cell? ⟨w.heap.size, i, none⟩ = cs[i]? :=
  (((Up.refl Nul (w.alloc (.cells cs T))).alloc o).cell (p := ⟨w.heap.size, i, none⟩) (by simp) id).trans (World.cell?_alloc_new w cs T i)
theorem Mid.lt {B base n : Nat} {W w : World} {u1 u2 vA vB : Value} {xs ys : List Value} (h : Mid B base n W u1 u2 vA vB xs ys w) : base ≤ w.heap.size := Nat.le_trans h.le h.up.size
theorem Mid.growA {B base n : Nat} {W w w' : World} {u1 u2 v vB : Value} {xs xs2 ys : List Value} (h : Mid B base n W u1 u2 u1 vB xs ys w) (g1 : OwnV 22 base w' v xs2) (g2 : w.grownBy w' u1.ownBlock) : Mid B base n W u1 u2 v vB xs2 ys w' :=
  ⟨g1, h.b.apart (Up.ofg g2) fun g e e2 => h.a.ne_s h.b g e2.symm e, h.up.trans ((Up.ofg g2).mono fun k _ e => .inl e), h.le⟩
theorem Mid.growB {B base n m : Nat} {W w w' : World} {u1 u2 v vA : Value} {xs ys ys2 : List Value} (h : Mid B base n W u1 u2 vA u2 xs ys w) (g1 : OwnS base w' v m ys2) (g2 : w.grownBy w' u2.ownBlock) : Mid B base m W u1 u2 vA v xs ys2 w' :=
  ⟨h.a.apart (Up.ofg g2) fun g e e2 => h.a.ne_s h.b g e e2.symm, g1, h.up.trans ((Up.ofg g2).mono fun k _ e => .inr e), h.le⟩
/-- What was laid after W is as it was. -/
theorem Mid.keepA {B base n : Nat} {W w w' : World} {u1 u2 vB : Value} {xs ys x0 : List Value} {a : Addr} {y : Value} (h : Mid B base n W u1 u2 u1 vB xs ys w) (h0 : OwnV 22 base W u1 x0) (g2 : w.grownBy w' u1.ownBlock) (hb : W.heap.size ≤ a.block) (hc : w.cell? a = some y) : w'.cell? a = some y :=
  ((Up.ofg g2).cell (lt_of_cell hc) fun e => by have := (World.ownsRow.lt h0 _ e.symm).2; omega).trans hc
theorem Mid.keepB {B base n m : Nat} {W w w' : World} {u1 u2 vA : Value} {xs ys y0 : List Value} {a : Addr} {y : Value} (h : Mid B base n W u1 u2 vA u2 xs ys w) (h0 : OwnS base W u2 m y0) (g2 : w.grownBy w' u2.ownBlock) (hb : W.heap.size ≤ a.block) (hc : w.cell? a = some y) : w'.cell? a = some y :=
  ((Up.ofg g2).cell (lt_of_cell hc) fun e => by have := (World.ownsRow.lt h0 _ e.symm).2; omega).trans hc
/-- make([]byte, 0, n + 1). -/
theorem make_cap (w : World) (n : Nat) (hn : n ≤ 1000000) :
    (Instr.makeSlice 22 (.int .i64 0) (.int .i64 ((n : Int) + 1))).run Try.prog w = .ok (.slice (some ⟨w.heap.size, 0, none⟩) 0 (n + 1)) (w.alloc (.cells (bys (zer (n + 1))) 5)) := by
  obtain ⟨i0, hi, hz0, hz1, hz2⟩ := info_parts info_u8
  have := run_make (P := Try.prog) (w := w) 22 5 i0 (.int .u8 0) Try.underlying22 hi hz0 .i64 .i64 0 ((n : Int) + 1) (by omega) (by omega) (by rw [hz2]; omega) (by omega)
  rw [this, hz1]
  have e : ((n : Int) + 1).toNat = n + 1 := by omega
  rw [e, made_zer]
  rfl
theorem OwnB.made (base : Nat) (w : World) (n : Nat) (hb : base ≤ w.heap.size) (hn : n ≤ 1000000) : OwnB base (w.alloc (.cells (bys (zer (n + 1))) 5)) (.slice (some ⟨w.heap.size, 0, none⟩) 0 (n + 1)) [] :=
  ⟨⟨rfl, .inr ⟨w.heap.size, n + 1, bys (zer (n + 1)), rfl, hb, heap_alloc_new _ _, Nat.zero_le _, by unfold maxLen; omega, by simp [bys, zer], rfl⟩⟩, fun _ h => by cases h⟩
end Go.Proofs.Ytcmcejgjajfkbaa
