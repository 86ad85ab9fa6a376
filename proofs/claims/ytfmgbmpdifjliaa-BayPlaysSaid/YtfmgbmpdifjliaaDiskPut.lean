/- A pending write's cells: built, laid into a slice, appended; a slot loaded whole, and written. -/
import Derived.Test.YtfmgbmpdifjliaaDiskRead
import Derived.Deep.RegionHeld3
namespace Go.Proofs.Ytfmgbmpdifjliaa
open Go.RowKit
set_option linter.unusedVariables false

/-- Cells laid over others. -/
abbrev lay (off : Nat) (vs cs : Array Value) : Array Value := vs.zipIdx.foldl (fun cs x => cs.setIfInBounds (off + x.2) x.1) cs
theorem fold_at (vs : List Value) : ∀ (off k : Nat) (cs : Array Value), off + k + vs.length ≤ cs.size →
    ((vs.zipIdx k).foldl (fun (cs : Array Value) (p : Value × Nat) => cs.setIfInBounds (off + p.2) p.1) cs).size = cs.size ∧
    ∀ i : Nat, ((vs.zipIdx k).foldl (fun (cs : Array Value) (p : Value × Nat) => cs.setIfInBounds (off + p.2) p.1) cs)[i]? = if off + k ≤ i ∧ i < off + k + vs.length then vs[i - (off + k)]? else cs[i]? := by
  induction vs with
  | nil => intro off k cs h; exact ⟨rfl, fun i => by rw [if_neg (by simp)]; rfl⟩
  | cons v vs ih =>
    intro off k cs h
    simp only [List.length_cons] at h
    rw [List.zipIdx_cons, List.foldl_cons]
    obtain ⟨h1, h2⟩ := ih off (k + 1) (cs.setIfInBounds (off + k) v) (by simp; omega)
    refine ⟨by rw [h1]; simp, fun i => ?_⟩
    rw [h2]
    simp only [List.length_cons]
    by_cases e1 : i = off + k
    · subst e1
      rw [if_neg (by omega), if_pos (by omega), Array.getElem?_setIfInBounds, if_pos rfl, if_pos (by omega)]
      simp
    · by_cases e2 : off + (k + 1) ≤ i ∧ i < off + (k + 1) + vs.length
      · rw [if_pos e2, if_pos (by omega), show i - (off + k) = (i - (off + (k + 1))) + 1 by omega, List.getElem?_cons_succ]
      · rw [if_neg e2, if_neg (by omega), Array.getElem?_setIfInBounds, if_neg (by omega)]
theorem lay_at (off : Nat) (vs cs : Array Value) (h : off + vs.size ≤ cs.size) :
    (lay off vs cs).size = cs.size ∧ ∀ i : Nat, (lay off vs cs)[i]? = if off ≤ i ∧ i < off + vs.size then vs[i - off]? else cs[i]? := by
  have := fold_at vs.toList off 0 cs (by simpa using h)
  simp only [Nat.add_zero, Array.length_toList, Array.getElem?_toList] at this
  have e : lay off vs cs = (vs.toList.zipIdx 0).foldl (fun (cs : Array Value) (p : Value × Nat) => cs.setIfInBounds (off + p.2) p.1) cs := by
    unfold lay
    rw [← Array.foldl_toList, Array.toList_zipIdx]
  rw [e]
  exact this
theorem fill_step (place : Nat → Option (Nat × Nat)) (zero : Array Value) (i : Nat) (v : Value) (rest : List (Nat × Value)) (off : Nat) (h : place i = some (off, v.cells.size)) (hb : off + v.cells.size ≤ zero.size) :
    Instr.fill place zero ((i, v) :: rest) = Instr.fill place (lay off v.cells zero) rest := by
  simp only [Instr.fill, h]
  rw [if_neg (by simp; omega)]
theorem fill_two (place : Nat → Option (Nat × Nat)) (zero cs : Array Value) (n : Int) (h0 : place 0 = some (0, 1)) (h1 : place 1 = some (1, 96)) (hz : zero.size = 97) (hcs : cs.size = 96) :
    Instr.fill place zero [(0, .int .i64 n), (1, .agg cs)] = some ((.int .i64 n :: cs.toList).toArray) := by
  obtain ⟨a1, a2⟩ := lay_at 0 #[.int .i64 n] zero (by simp; omega)
  obtain ⟨b1, b2⟩ := lay_at 1 cs (lay 0 #[.int .i64 n] zero) (by rw [a1]; omega)
  rw [fill_step place zero 0 (.int .i64 n) _ 0 h0 (by simp [Value.cells]; omega), fill_step place _ 1 (.agg cs) _ 1 (by rw [h1, ← hcs]; rfl) (by show 1 + cs.size ≤ (lay 0 #[.int .i64 n] zero).size; rw [a1]; omega)]
  show some (lay 1 cs (lay 0 #[.int .i64 n] zero)) = _
  congr 1
  apply Array.ext_getElem?
  intro i
  rw [b2, a2]
  simp only [List.getElem?_toArray, List.size_toArray, List.length_cons, List.length_nil]
  rcases i with _ | i
  · simp
  · simp only [List.getElem?_cons_succ, Array.getElem?_toList]
    by_cases hi : i < 96
    · rw [if_pos (by omega), show i + 1 - 1 = i by omega]
    · rw [if_neg (by omega), if_neg (by omega), Array.getElem?_eq_none (by omega), Array.getElem?_eq_none (by omega)]
theorem fill_one (zero cs : Array Value) (sz : Nat) (hz : zero.size = sz) (hcs : cs.size = sz) :
    Instr.fill (fun i => some (i * sz, sz)) zero [(0, .agg cs)] = some cs := by
  obtain ⟨a1, a2⟩ := lay_at (0 * sz) cs zero (by omega)
  rw [fill_step _ zero 0 (.agg cs) _ (0 * sz) (by simp [Value.cells, hcs]) (by simp [Value.cells]; omega)]
  show some (lay (0 * sz) cs zero) = _
  congr 1
  apply Array.ext_getElem?
  intro i
  rw [a2]
  by_cases hi : i < sz
  · rw [if_pos (by omega), show i - 0 * sz = i by omega]
  · rw [if_neg (by omega), Array.getElem?_eq_none (by omega), Array.getElem?_eq_none (by omega)]
theorem info_cov : ∃ i z, Try.prog.info? 100 = some i ∧ i.zero = some z ∧ i.size = 97 ∧ i.bytes = 104 ∧ z.cells.size = 97 := by
  have h : (Try.prog.info? 100).map (fun i => (i.size, i.bytes, i.zero.map fun z => z.cells.size)) = some (97, 104, some 97) := by kernel_rfl
  cases e : Try.prog.info? 100 with
  | none => rw [e] at h; cases h
  | some i =>
    rw [e] at h
    simp only [Option.map_some, Option.some.injEq, Prod.mk.injEq, Option.map_eq_some_iff] at h
    obtain ⟨h1, h2, z, h3, h4⟩ := h
    exact ⟨i, z, rfl, h3, h1, h2, h4⟩
theorem info_sec_size : (Try.prog.info? 83).map (·.size) = some 96 := by kernel_rfl
theorem info_int_size : (Try.prog.info? 3).map (·.size) = some 1 := by kernel_rfl
theorem build_cov (n : Int) (cs : Array Value) (hcs : cs.size = 96) (w : World) :
    (Instr.build 100 #[(0, .int .i64 n), (1, .agg cs)]).run Try.prog w = .ok (.agg (.int .i64 n :: cs.toList).toArray) w := by
  obtain ⟨i, z, h1, h2, h3, h4, h5⟩ := info_cov
  obtain ⟨i6, h6, h7⟩ := Option.map_eq_some_iff.1 info_sec_size
  obtain ⟨i8, h8, h9⟩ := Option.map_eq_some_iff.1 info_int_size
  simp [Instr.build, zeroValue, sizeOf, typeInfo, h1, h2, run_underlying Try.underlying100, h6, h7, h8, h9]
  rw [fill_two _ _ _ _ (by simp) (by simp) h5 hcs]
  simp
theorem build_sl (cs : Array Value) (hcs : cs.size = 97) (w : World) :
    (Instr.buildSlice 73 1 #[(0, .agg cs)]).run Try.prog w = .ok (.slice (some ⟨w.heap.size, 0, none⟩) 1 1) (w.alloc (.cells cs 100)) := by
  obtain ⟨i, z, h1, h2, h3, h4, h5⟩ := info_cov
  simp [Instr.buildSlice, zeroValue, sizeOf, typeInfo, h1, h2, h3, run_underlying Try.underlying73]
  rw [fill_one _ _ 97 (by simp) hcs]
  simp [newRow, newObj]
  rfl
theorem pcell_length (p : Nat × List Nat) (h : p.2.length = 96) : (pcell p).length = 97 := by simp [pcell, vals_length, h]
theorem one_vals (z : List Nat) : ∀ v ∈ vals z, v.oneCell' = true := fun v hv => by
  obtain ⟨n, _, rfl⟩ := List.mem_map.1 hv
  rfl
theorem one_pcell (p : Nat × List Nat) : ∀ v ∈ pcell p, v.oneCell' = true := fun v hv => by
  rcases List.mem_cons.1 hv with rfl | hv
  · rfl
  · exact one_vals _ v hv
/-- Where the row lies behind an append. -/
theorem append_where (w w' : World) (v v' : Value) (t ty e : TypeId) (i : TypeInfo) (z : Value) (base n : Nat) (xs : List Value) (ht : Try.prog.underlying t = some (.slice e)) (hi : Try.prog.info? e = some i) (hz : i.zero = some z) (hown : w.ownsRow base e i.size v n xs)
    (a : Addr) (c : Nat) (news : List Value) (hl : news.length = 1 * i.size) (hnews : ∀ j u, news[j]? = some u → w.cell? (a.add j) = some u) (h1 : ∀ u ∈ news, u.oneCell' = true) (h63 : n + 1 ≤ 1000000) (hb : i.bytes ≤ 1000)
    (hrun : (Builtin.append_ #[t, t] ty #[v, .slice (some a) 1 c]).run Try.prog w = .ok v' w') : v'.ownBlock = v.ownBlock ∨ v'.ownBlock = some w.heap.size := by
  have hm : (n + 1) * i.bytes ≤ 140737488355328 := by
    have := Nat.mul_le_mul h63 hb
    omega
  rcases hown.2 with ⟨rfl, rfl⟩ | ⟨g, cap, cur, rfl, hbg, hg, hnc, hcm, hcs, htake⟩
  · have hr := run_append_nil (P := Try.prog) w t ty e i z ht hi hz a 1 c news hl hnews (by omega) (by omega) (by omega)
    rw [hrun] at hr
    injection hr with hr _
    exact .inr (by rw [hr]; rfl)
  · by_cases hroom : n + 1 ≤ cap
    · have hfit : n * i.size + news.length ≤ cur.size := by rw [hl, hcs, ← Nat.add_mul]; exact Nat.mul_le_mul_right _ hroom
      have hr := run_append_room (P := Try.prog) w t ty e i ht hi g n cap cur hg a 1 c news hl hnews h1 hroom hfit
      rw [hrun] at hr
      injection hr with hr _
      exact .inl (by rw [hr]; rfl)
    · have holds : ∀ j u, xs[j]? = some u → w.cell? ((⟨g, 0, none⟩ : Addr).add j) = some u := hown.cells (g := g) rfl
      have hr := run_append_grow (P := Try.prog) w t ty e i z ht hi hz ⟨g, 0, none⟩ n cap xs hown.1 holds a 1 c news hl hnews (by omega) (by omega) (growslice_fits (by omega) hm)
      rw [hrun] at hr
      injection hr with hr _
      exact .inr (by rw [hr]; rfl)
/-- append(d.pending, one). -/
theorem wp_append_cov {w : World} {o : Oper} {a : Act} {K : Act → World → Prop} {Q : Exit → Act → World → Prop} (s x : Operand)
    (ho : o.op = .call { callee := .builtin .append, args := #[s, x], argTypes := #[73, 73] }) (v : Value) (ps : List (Nat × List Nat)) (hs : a.eval s = v) (hown : w.ownsRow 0 100 97 v ps.length (pcells ps))
    (bk : Nat) (p : Nat × List Nat) (hx : a.eval x = .slice (some ⟨bk, 0, none⟩) 1 1) (hb : w.heap[bk]? = some (.cells (pcell p).toArray 100 (0, 0))) (hp : p.2.length = 96) (hl : ps.length ≤ 900000)
    (h : ∀ v' w', Hid (w'.ownsRow 0 100 97 v' (ps ++ [p]).length (pcells (ps ++ [p]))) → Hid (w.grownBy w' v.ownBlock) → Hid (v'.ownBlock = v.ownBlock ∨ v'.ownBlock = some w.heap.size) → K (a.put o.dst v') w') : Oper.wp Try.prog o a w K Q := by
  obtain ⟨i0, z0, hi, hz, hz1, hz2, hz3⟩ := info_cov
  obtain ⟨v', w', hrun, g1, g2, _⟩ := run_append_own (P := Try.prog) w 0 73 o.type 100 i0 z0 97 i0.bytes Try.underlying73 hi hz hz1 rfl hz3 (by decide) v ps.length _ hown ⟨bk, 0, none⟩ 1 1 (pcell p) (by rw [pcell_length p hp])
    (fun j u hj => by
      rw [add_off, Nat.zero_add]
      simp only [World.cell?, hb]
      simpa using hj) (one_pcell p) (by unfold maxLen; omega) (by rw [hz2]; omega) (Nat.zero_le _)
  unfold Oper.wp
  simp [execOp, ho, resolve, invoke, builtin, hs, hx, hrun, Result.andThen]
  refine h v' w' (by rw [pcells_append, List.length_append]; exact g1) g2 (append_where w w' v v' _ _ _ i0 z0 0 ps.length _ Try.underlying73 hi hz (by rw [hz1]; exact hown) ⟨bk, 0, none⟩ 1 (pcell p) (by rw [pcell_length p hp, hz1]) (fun j u hj => by
      rw [add_off, Nat.zero_add]
      simp only [World.cell?, hb]
      simpa using hj) (one_pcell p) (by omega) (by rw [hz2]; omega) hrun)
theorem step_append_cov {w : World} {ops : Array Oper} {o : Oper} {a : Act} {K : Act → World → Prop} {Q : Exit → Act → World → Prop} {E : Prop} (hgd : o.guard = none) (s x : Operand)
    (ho : o.op = .call { callee := .builtin .append, args := #[s, x], argTypes := #[73, 73] }) (v : Value) (ps : List (Nat × List Nat)) (hs : a.eval s = v) (hown : w.ownsRow 0 100 97 v ps.length (pcells ps))
    (bk : Nat) (p : Nat × List Nat) (hx : a.eval x = .slice (some ⟨bk, 0, none⟩) 1 1) (hb : w.heap[bk]? = some (.cells (pcell p).toArray 100 (0, 0))) (hp : p.2.length = 96) (hl : ps.length ≤ 900000)
    (h : ∀ v' w', Hid (w'.ownsRow 0 100 97 v' (ps ++ [p]).length (pcells (ps ++ [p]))) → Hid (w.grownBy w' v.ownBlock) → Hid (v'.ownBlock = v.ownBlock ∨ v'.ownBlock = some w.heap.size) → K (a.put o.dst v') w') : if Region.wanted o (yielded ops a.tmps) = true then Oper.wp Try.prog o a w K Q else E := by
  have hw : Region.wanted o (yielded ops a.tmps) = true := by simp [Region.wanted, hgd]
  rw [if_pos hw]
  exact wp_append_cov s x ho v ps hs hown bk p hx hb hp hl h
/-- copy into a slot. -/
theorem run_copy_slot (w : World) (ty : TypeId) (d : DK) (h : Dsk w d) (o n m dCap : Nat) (a : Option Addr) (sCap : Nat) (y : List Nat) (hr : SlN w a m y) (hm : min m n = m) (hfit : o + m ≤ d.n * 96) :
    ∃ w', (Builtin.copy_ #[32, 32] ty #[.slice (some ⟨d.q, o, none⟩) n dCap, .slice a m sCap]).run Try.prog w = .ok (goInt m) w' ∧ Dsk w' { d with z := over d.z o y } ∧ Up (One d.q) w w' := by
  have hy := hr.len
  rcases hr.row with rfl | ⟨b, so, rfl, hb, r⟩
  · obtain rfl : y = [] := List.eq_nil_of_length_eq_zero hy
    exact ⟨w, run_copy_none (P := Try.prog) w _ _ ty 5 _ _ _ _ _ _ Try.underlying32 info_u8_size (Nat.zero_min _), by simpa [over] using h, Up.refl _ _⟩
  · have hsrc : ∀ (j : Nat) (v : Value), (vals y)[j]? = some v → w.cell? (Addr.add ⟨b, so, none⟩ j) = some v := by
      intro j v hv
      unfold vals at hv
      rw [List.getElem?_map] at hv
      have hj : j < y.length := by
        rcases Nat.lt_or_ge j y.length with h | h
        · exact h
        · rw [List.getElem?_eq_none h] at hv; cases hv
      rw [List.getElem?_eq_getElem hj] at hv
      have hc := r.cells j hj
      rw [List.getD_eq_getElem?_getD, List.getElem?_eq_getElem hj] at hc
      rw [add_off, hc]
      exact hv
    have hlm : (vals y).length = m := by rw [vals_length, hy]
    have hrun := run_copy_row (P := Try.prog) w 32 32 ty 5 d.q o n dCap ⟨b, so, none⟩ m sCap (bys d.z) 83 (vals y) Try.underlying32 info_u8_size h.rows
      (by rw [hlm]; exact hm.symm) hsrc (by rw [hlm, bys_size, h.len]; exact hfit) (one_vals y)
    rw [hlm] at hrun
    have e : ((bys d.z).toList.take o ++ vals y ++ (bys d.z).toList.drop (o + m)).toArray = bys (over d.z o y) := by
      simp [bys, over, vals, hy]
    rw [e] at hrun
    have u : Up (One d.q) w (w.setRow d.q (bys (over d.z o y))) := ⟨rfl, rfl, rfl, by simp [World.setRow], fun k hk hs => setRow_other w d.q k _ hs⟩
    refine ⟨_, hrun, ⟨(u.block _ h.lt_b h.bq).trans h.head, setRow_heap w d.q _ _ _ _ h.rows, fun x hx => ?_, by rw [over_length (by rw [h.len, hy]; exact hfit)]; exact h.len, h.le, own_up h.pend u fun g hg e => h.pq ((show d.pv.ownBlock = some g from hg).trans (congrArg some e)), h.good, h.most⟩, u⟩
    unfold over at hx
    rcases List.mem_append.1 hx with hx | hx
    · rcases List.mem_append.1 hx with hx | hx
      · exact h.small x (List.mem_of_mem_take hx)
      · obtain ⟨i, hi, rfl⟩ := List.mem_iff_getElem.1 hx
        have := r.small i
        rwa [List.getD_eq_getElem?_getD, List.getElem?_eq_getElem hi] at this
    · exact h.small x (List.mem_of_mem_drop hx)
/-- A slot, loaded whole. -/
theorem Dsk.range {w : World} {d : DK} (h : Dsk w d) {s : Nat} (hs : s < d.n) : w.rangeAt d.q (s * 96) (vals (d.slot s)) := fun j v hv => by
  unfold vals at hv
  rw [List.getElem?_map] at hv
  have hj : j < (d.slot s).length := by
    rcases Nat.lt_or_ge j (d.slot s).length with h | h
    · exact h
    · rw [List.getElem?_eq_none h] at hv; cases hv
  rw [List.getElem?_eq_getElem hj] at hv
  have hc := (h.row hs).cells j hj
  rw [List.getD_eq_getElem?_getD, List.getElem?_eq_getElem hj] at hc
  rw [hc]
  exact hv
theorem exec_build (o : Oper) (ev : Operand → Value) (t : TypeId) (parts : Array (Nat × Operand)) (ho : o.op = .build t parts) (vs : Array (Nat × Value)) (hvs : parts.map (fun p => (p.1, ev p.2)) = vs) (v : Value) (w : World) (h : (Instr.build t vs).run Try.prog w = .ok v w) :
    (execOp ev o).run Try.prog w = .ok (.value v) w := by
  unfold execOp
  simp only [ho]
  have e : parts.map (fun x => match x with | (i, p) => (i, ev p)) = vs := hvs
  simp [e, h]
theorem exec_slice (o : Oper) (ev : Operand → Value) (t : TypeId) (n : Nat) (parts : Array (Nat × Operand)) (ho : o.op = .buildSlice t n parts) (vs : Array (Nat × Value)) (hvs : parts.map (fun p => (p.1, ev p.2)) = vs) (v : Value) (w w' : World) (h : (Instr.buildSlice t n vs).run Try.prog w = .ok v w') :
    (execOp ev o).run Try.prog w = .ok (.value v) w' := by
  unfold execOp
  simp only [ho]
  have e : parts.map (fun x => match x with | (i, p) => (i, ev p)) = vs := hvs
  simp [e, h]
theorem wp_exec {w w' : World} {o : Oper} {a : Act} {K : Act → World → Prop} {Q : Exit → Act → World → Prop} {v : Value} (h : (execOp a.eval o).run Try.prog w = .ok (.value v) w') (hk : K (a.put o.dst v) w') : Oper.wp Try.prog o a w K Q := by
  unfold Oper.wp
  rw [h]
  exact hk
end Go.Proofs.Ytfmgbmpdifjliaa
