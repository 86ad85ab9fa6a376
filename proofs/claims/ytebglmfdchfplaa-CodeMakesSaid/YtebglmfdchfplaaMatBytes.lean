/- 'copy' and 'append' of bytes, a row of bytes as a string. -/
import Derived.Test.YtebglmfdchfplaaMatColumn
import Derived.Laws.CopyOwn
namespace Go.Proofs.Ytebglmfdchfplaa
open Go.RowKit
set_option linter.unusedVariables false

/-- z laid over y from o on. -/
def over (y : List Nat) (o : Nat) (z : List Nat) : List Nat := y.take o ++ z ++ y.drop (o + z.length)
theorem over_length {y z : List Nat} {o : Nat} (h : o + z.length ≤ y.length) : (over y o z).length = y.length := by
  simp [over]; omega
theorem over_at {y z : List Nat} {o : Nat} (h : o + z.length ≤ y.length) (i : Nat) : (over y o z).getD i 0 = if o ≤ i ∧ i < o + z.length then z.getD (i - o) 0 else y.getD i 0 := by
  have h1 : (y.take o).length = o := by simp; omega
  simp only [over, List.getD_eq_getElem?_getD, List.append_assoc]
  by_cases a1 : i < o
  · rw [List.getElem?_append_left (by omega), if_neg (by omega), List.getElem?_take, if_pos a1]
  · rw [List.getElem?_append_right (by omega), h1]
    by_cases a2 : i < o + z.length
    · rw [List.getElem?_append_left (by omega), if_pos (by omega)]
    · rw [List.getElem?_append_right (by omega), if_neg (by omega), List.getElem?_drop]
      congr 2
      omega
theorem info_u8_size : (Try.prog.info? 5).map (·.size) = some 1 := by kernel_rfl

theorem run_copy_bytes (w : World) (ty : TypeId) (g o n d dCap b so sCap : Nat) (y z : List Nat) (hg : Blk w g y) (hz : Row w b so z) (hl : z.length = n) (hnd : n ≤ d) (hfit : o + n ≤ y.length) :
    ∃ w', (Builtin.copy_ #[22, 22] ty #[.slice (some ⟨g, o, none⟩) d dCap, .slice (some ⟨b, so, none⟩) n sCap]).run Try.prog w = .ok (goInt n) w' ∧ Blk w' g (over y o z) ∧ Up (One g) w w' ∧ w'.heap.size = w.heap.size := by
  have hsrc : ∀ (j : Nat) (v : Value), (z.map fun (n : Nat) => Value.int .u8 (n : Int))[j]? = some v → w.cell? (Addr.add ⟨b, so, none⟩ j) = some v := by
    intro j v hv
    rw [List.getElem?_map] at hv
    have hj : j < z.length := by
      rcases Nat.lt_or_ge j z.length with h | h
      · exact h
      · rw [List.getElem?_eq_none h] at hv; cases hv
    rw [List.getElem?_eq_getElem hj] at hv
    have hc := hz.cells j hj
    rw [List.getD_eq_getElem?_getD, List.getElem?_eq_getElem hj] at hc
    have ea : Addr.add ⟨b, so, none⟩ j = ⟨b, so + j, none⟩ := by
      by_cases h0 : j = 0
      · subst h0; simp [Addr.add]
      · simp [Addr.add, h0]
    rw [ea, hc]
    exact hv
  have hlm : (z.map fun (n : Nat) => Value.int .u8 (n : Int)).length = n := by simp [hl]
  have h := run_copy_row (P := Try.prog) w 22 22 ty 5 g o d dCap ⟨b, so, none⟩ n sCap (bys y) 5 (z.map fun (n : Nat) => Value.int .u8 (n : Int)) Try.underlying22 info_u8_size hg.heap
    (by rw [hlm]; exact (Nat.min_eq_left hnd).symm) hsrc (by rw [hlm, bys_size]; exact hfit) (fun v hv => by
      obtain ⟨k, _, rfl⟩ := List.mem_map.1 hv
      rfl)
  rw [hlm] at h
  refine ⟨_, h, ⟨?_, fun x hx => ?_⟩, ⟨rfl, rfl, rfl, by simp [World.setRow], fun k hk hs => setRow_other w g k _ hs⟩, by simp [World.setRow]⟩
  · have e : ((bys y).toList.take o ++ (z.map fun (n : Nat) => Value.int .u8 (n : Int)) ++ (bys y).toList.drop (o + n)).toArray = bys (over y o z) := by
      simp [bys, over, hl]
    rw [e]
    exact setRow_heap w g _ _ _ _ hg.heap
  · unfold over at hx
    rcases List.mem_append.1 hx with hx | hx
    · rcases List.mem_append.1 hx with hx | hx
      · exact hg.small x (List.mem_of_mem_take hx)
      · obtain ⟨i, hi, rfl⟩ := List.mem_iff_getElem.1 hx
        have := hz.small i
        rwa [List.getD_eq_getElem?_getD, List.getElem?_eq_getElem hi] at this
    · exact hg.small x (List.mem_of_mem_drop hx)

theorem wpList_copy_bytes {w : World} {ops : Array Oper} {rest : List Oper} {o : Oper} {a : Act} {Q : Exit → Act → World → Prop} (hgd : o.guard = none) (d s : Operand)
    (ho : o.op = .call { callee := .builtin .copy, args := #[d, s], argTypes := #[22, 22] }) (g off n dl dCap b so sCap : Nat) (y z : List Nat) (hg : Blk w g y) (hz : Row w b so z) (hl : z.length = n) (hnd : n ≤ dl) (hfit : off + n ≤ y.length)
    (hd : a.eval d = .slice (some ⟨g, off, none⟩) dl dCap) (hs : a.eval s = .slice (some ⟨b, so, none⟩) n sCap)
    (h : ∀ w', Hid (Blk w' g (over y off z)) → Hid (Up (One g) w w' ∧ w'.heap.size = w.heap.size) → wpList Try.prog ops Q rest (a.put o.dst (goInt n)) w') : wpList Try.prog ops Q (o :: rest) a w := by
  refine wpList_plain hgd fun K hK => ?_
  obtain ⟨w', hrun, h1, h2⟩ := run_copy_bytes w o.type g off n dl dCap b so sCap y z hg hz hl hnd hfit
  unfold Oper.wp
  simp [execOp, ho, resolve, invoke, builtin, hd, hs, hrun, Result.andThen]
  exact hK _ _ (h w' h1 h2)
theorem step_copy_bytes {w : World} {ops : Array Oper} {o : Oper} {a : Act} {K : Act → World → Prop} {Q : Exit → Act → World → Prop} {E : Prop} (hgd : o.guard = none) (d s : Operand)
    (ho : o.op = .call { callee := .builtin .copy, args := #[d, s], argTypes := #[22, 22] }) (g off n dl dCap b so sCap : Nat) (y z : List Nat) (hg : Blk w g y) (hz : Row w b so z) (hl : z.length = n) (hnd : n ≤ dl) (hfit : off + n ≤ y.length)
    (hd : a.eval d = .slice (some ⟨g, off, none⟩) dl dCap) (hs : a.eval s = .slice (some ⟨b, so, none⟩) n sCap)
    (h : ∀ w', Hid (Blk w' g (over y off z)) → Hid (Up (One g) w w' ∧ w'.heap.size = w.heap.size) → K (a.put o.dst (goInt n)) w') : if Region.wanted o (yielded ops a.tmps) = true then Oper.wp Try.prog o a w K Q else E := by
  have hw : Region.wanted o (yielded ops a.tmps) = true := by simp [Region.wanted, hgd]
  rw [if_pos hw]
  obtain ⟨w', hrun, h1, h2⟩ := run_copy_bytes w o.type g off n dl dCap b so sCap y z hg hz hl hnd hfit
  unfold Oper.wp
  simp [execOp, ho, resolve, invoke, builtin, hd, hs, hrun, Result.andThen]
  exact h w' h1 h2

/-- The slice v, of the call's own, holds the bytes z. -/
structure OwnB (base : Nat) (w : World) (v : Value) (z : List Nat) : Prop where
  own : w.ownsRow base 5 1 v z.length (z.map fun (n : Nat) => Value.int .u8 (n : Int))
  small : ∀ x ∈ z, x < 256
theorem OwnB.nil (base : Nat) (w : World) : OwnB base w (.slice none 0 0) [] := ⟨World.ownsRow_nil _ _ _ _, fun _ h => by cases h⟩
theorem OwnB.alloc {base : Nat} {w : World} {v : Value} {z : List Nat} (h : OwnB base w v z) (o : Obj) : OwnB base (w.alloc o) v z := ⟨h.own.alloc o, h.small⟩
theorem OwnB.drewN {base : Nat} {w : World} {v : Value} {z : List Nat} (h : OwnB base w v z) (n : Nat) : OwnB base (w.drewN n) v z := ⟨h.own, h.small⟩
theorem OwnB.up {S : Nat → Prop} {base : Nat} {w w' : World} {v : Value} {z : List Nat} (h : OwnB base w v z) (u : Up S w w') (hs : ∀ k, base ≤ k → ¬ S k) : OwnB base w' v z := by
  refine ⟨⟨h.own.1, ?_⟩, h.small⟩
  rcases h.own.2 with hn | ⟨g, cap, cur, h1, h2, h3, h4⟩
  · exact .inl hn
  · exact .inr ⟨g, cap, cur, h1, h2, (u.block g (Array.getElem?_eq_some_iff.1 h3).1 (hs g h2)).trans h3, h4⟩
/-- What holds something lies in a block. -/
theorem OwnB.row {base : Nat} {w : World} {v : Value} {z : List Nat} (h : OwnB base w v z) (h0 : 0 < z.length) :
    ∃ g cap, v = .slice (some ⟨g, 0, none⟩) z.length cap ∧ base ≤ g ∧ g < w.heap.size ∧ Row w g 0 z ∧ (∀ i, w.frozen? ⟨g, i, none⟩ = false) ∧ z.length ≤ cap := by
  rcases h.own.2 with ⟨_, hn⟩ | ⟨g, cap, cur, h1, h2, h3, h4, h5, h6, h7⟩
  · omega
  · refine ⟨g, cap, h1, h2, (Array.getElem?_eq_some_iff.1 h3).1, ⟨fun i hi => ?_, fun i => small_getD h.small i⟩, fun i => by simp [World.frozen?, h3], h4⟩
    have hc : cur[i]? = some (.int .u8 (z.getD i 0)) := by
      have e : (cur.toList.take (z.length * 1))[i]? = some (.int .u8 (z.getD i 0)) := by
        rw [h7, List.getElem?_map, List.getElem?_eq_getElem hi]
        simp [List.getD_eq_getElem?_getD, List.getElem?_eq_getElem hi]
      rw [List.getElem?_take, if_pos (by omega)] at e
      simpa using e
    simp only [World.cell?, h3, Nat.zero_add]
    exact hc
theorem Up.grown {S : Nat → Prop} {W w w' : World} {row : Option Nat} (h : Up S W w) (hg : w.grownBy w' row) (hr : ∀ k, row = some k → W.heap.size ≤ k) : Up S W w' :=
  ⟨hg.os.trans h.os, hg.tape.trans h.tape, hg.output.trans h.output, Nat.le_trans h.size hg.size, fun k hk hs => (hg.block k (Nat.lt_of_lt_of_le hk h.size) fun e => by
    have := hr k e.symm
    omega).trans (h.block k hk hs)⟩
theorem OwnB.base {base : Nat} {w : World} {v : Value} {z : List Nat} (h : OwnB base w v z) : ∀ k, v.ownBlock = some k → base ≤ k := by
  intro k hk
  rcases h.own.2 with ⟨e, _⟩ | ⟨g, cap, cur, e, h2, _⟩
  · subst e; cases hk
  · subst e
    have : g = k := by simpa [Value.ownBlock] using hk
    omega

/-- append(v, y). -/
theorem wpList_append_byte {w : World} {ops : Array Oper} {rest : List Oper} {o : Oper} {a : Act} {Q : Exit → Act → World → Prop} (hgd : o.guard = none) (s x : Operand)
    (ho : o.op = .call { callee := .builtin .append, args := #[s, x], argTypes := #[22, 22] }) (base : Nat) (v : Value) (z : List Nat) (hs : a.eval s = v) (hown : OwnB base w v z)
    (ad : Addr) (cap y : Nat) (hx : a.eval x = .slice (some ad) 1 cap) (hc : w.cell? ad = some (.int .u8 y)) (hy : y < 256) (hl : z.length ≤ 1000000) (hbase : base ≤ w.heap.size)
    (h : ∀ v' w', Hid (OwnB base w' v' (z ++ [y])) → Hid (w.grownBy w' v.ownBlock) → wpList Try.prog ops Q rest (a.put o.dst v') w') : wpList Try.prog ops Q (o :: rest) a w := by
  obtain ⟨i0, hi, hz0, hz1, hz2⟩ := info_parts info_u8
  refine wpList_append_own w hgd s x 22 ho base 5 i0 (.int .u8 0) 1 1 Try.underlying22 hi hz0 hz1 hz2 rfl (by decide) v z.length _ hs hown.own ad 1 cap [.int .u8 y] hx rfl ?_ ?_ (by unfold maxLen; omega) (by omega) hbase fun v' w' h1 h2 _ => h v' w' ⟨by simpa using h1, ?_⟩ h2
  · intro j u hj
    match j, hj with
    | 0, hj => simp at hj; subst hj; simpa [Addr.add] using hc
  · intro u hu
    simp at hu
    subst hu
    rfl
  · intro x hx
    rcases List.mem_append.1 hx with hx | hx
    · exact hown.small x hx
    · simp at hx; omega

/-- append(v, y...). -/
theorem wpList_append_bytes {w : World} {ops : Array Oper} {rest : List Oper} {o : Oper} {a : Act} {Q : Exit → Act → World → Prop} (hgd : o.guard = none) (s x : Operand)
    (ho : o.op = .call { callee := .builtin .append, args := #[s, x], argTypes := #[22, 22] }) (base : Nat) (v : Value) (z : List Nat) (hs : a.eval s = v) (hown : OwnB base w v z)
    (b so n cap : Nat) (y : List Nat) (hx : a.eval x = .slice (some ⟨b, so, none⟩) n cap) (hr : Row w b so y) (hy : y.length = n) (hl : z.length + n ≤ 1000000) (hbase : base ≤ w.heap.size)
    (h : ∀ v' w', Hid (OwnB base w' v' (z ++ y)) → Hid (w.grownBy w' v.ownBlock) → wpList Try.prog ops Q rest (a.put o.dst v') w') : wpList Try.prog ops Q (o :: rest) a w := by
  obtain ⟨i0, hi, hz0, hz1, hz2⟩ := info_parts info_u8
  refine wpList_append_own w hgd s x 22 ho base 5 i0 (.int .u8 0) 1 1 Try.underlying22 hi hz0 hz1 hz2 rfl (by decide) v z.length _ hs hown.own ⟨b, so, none⟩ n cap (y.map fun (n : Nat) => Value.int .u8 (n : Int)) hx (by simp [hy]) ?_ ?_ (by unfold maxLen; omega) (by omega) hbase
    fun v' w' h1 h2 _ => h v' w' ⟨by rw [List.length_append, List.map_append, hy]; exact h1, fun x hx => ?_⟩ h2
  · intro j v hv
    rw [List.getElem?_map] at hv
    have hj : j < y.length := by
      rcases Nat.lt_or_ge j y.length with h | h
      · exact h
      · rw [List.getElem?_eq_none h] at hv; cases hv
    rw [List.getElem?_eq_getElem hj] at hv
    have hc := hr.cells j hj
    rw [List.getD_eq_getElem?_getD, List.getElem?_eq_getElem hj] at hc
    have ea : Addr.add ⟨b, so, none⟩ j = ⟨b, so + j, none⟩ := by
      by_cases h0 : j = 0
      · subst h0; simp [Addr.add]
      · simp [Addr.add, h0]
    rw [ea, hc]
    exact hv
  · intro u hu
    obtain ⟨k, _, rfl⟩ := List.mem_map.1 hu
    rfl
  · rcases List.mem_append.1 hx with hx | hx
    · exact hown.small x hx
    · obtain ⟨i, hi, rfl⟩ := List.mem_iff_getElem.1 hx
      have := hr.small i
      rwa [List.getD_eq_getElem?_getD, List.getElem?_eq_getElem hi] at this
/-- A new row without bytes. -/
theorem OwnB.fresh (base : Nat) (w : World) (hb : base ≤ w.heap.size) : OwnB base (w.alloc (.cells #[] 5)) (.slice (some ⟨w.heap.size, 0, none⟩) 0 0) [] :=
  ⟨⟨rfl, .inr ⟨w.heap.size, 0, #[], rfl, hb, heap_alloc_new _ _, Nat.le_refl _, by unfold maxLen; omega, rfl, rfl⟩⟩, fun _ h => by cases h⟩

/-- The string of some bytes. -/
def strOf (z : List Nat) : ByteArray := ⟨(z.map UInt8.ofNat).toArray⟩
theorem strOf_size (z : List Nat) : (strOf z).size = z.length := by
  show (z.map UInt8.ofNat).toArray.size = _
  simp
theorem nums_strOf {z : List Nat} (h : ∀ i, z.getD i 0 < 256) : nums (strOf z) = z := by
  apply List.ext_getElem
  · simp [nums, strOf]
  · intro i h1 h2
    have := h i
    simp [List.getD_eq_getElem?_getD, List.getElem?_eq_getElem h2] at this
    simp [nums, strOf]
    omega
theorem conv_row {w : World} {b o cap n : Nat} {z : List Nat} (r : Row w b o z) (hl : z.length = n) : (convert 22 9 (.slice (some ⟨b, o, none⟩) n cap)).run Try.prog w = .ok (.string (strOf z)) w := by
  have hn := nums_strOf r.small
  rw [← hl, ← strOf_size]
  refine Lib.run_convert_whole (P := Try.prog) w 22 5 9 Try.underlying22 Try.underlying5 Try.underlying9 b o _ (fun i hi => ?_) cap
  rw [r.cells i (by rw [← strOf_size]; exact hi)]
  have e := nums_at (strOf z) i hi
  rw [hn] at e
  rw [e]
end Go.Proofs.Ytebglmfdchfplaa
