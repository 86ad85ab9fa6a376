/- Part 3 of what the walks rest on: Disk, DiskOps, DiskRead, DiskPut, DiskWrite. -/
import Derived.Test.YtcejdobmgbielaaRB2
namespace Go.Proofs.Ytcejdobmgbielaa
open Go.RowKit
set_option linter.unusedVariables false

theorem Dsk.up {S : Nat → Prop} {w w' : World} {d : DK} (h : Dsk w d) (u : Up S w w') (hs : ∀ k, d.foot k → ¬ S k) : Dsk w' d :=
  ⟨(u.block _ h.lt_b (hs _ (.inl rfl))).trans h.head, (u.block _ h.lt_q (hs _ (.inr (.inl rfl)))).trans h.rows, h.small, h.len, h.le, own_up h.pend u fun g hg => hs g (.inr (.inr hg)), h.good, h.most⟩
theorem Dsk.nxt {w w' : World} {d : DK} (h : Dsk w d) (u : Up Nul w w') : Dsk w' d := h.up u fun _ _ => id
theorem Dsk.c0 {w : World} {d : DK} (h : Dsk w d) : w.cell? ⟨d.b, 0, none⟩ = some (.pointer (fp d.fu)) := by simp [World.cell?, h.head]
theorem Dsk.c1 {w : World} {d : DK} (h : Dsk w d) : w.cell? ⟨d.b, 1, none⟩ = some (.bool d.live) := by simp [World.cell?, h.head]
theorem Dsk.c2 {w : World} {d : DK} (h : Dsk w d) : w.cell? ⟨d.b, 2, none⟩ = some (.slice (some ⟨d.q, 0, none⟩) d.n d.n) := by simp [World.cell?, h.head]
theorem Dsk.c3 {w : World} {d : DK} (h : Dsk w d) : w.cell? ⟨d.b, 3, none⟩ = some (.slice d.pa d.ps.length d.pc) := by simp [World.cell?, h.head]
theorem Dsk.fr {w : World} {d : DK} (h : Dsk w d) (i : Nat) : w.frozen? ⟨d.b, i, none⟩ = false := by simp [World.frozen?, h.head]
theorem Dsk.frq {w : World} {d : DK} (h : Dsk w d) (i : Nat) : w.frozen? ⟨d.q, i, none⟩ = false := by simp [World.frozen?, h.rows]
theorem Dsk.cq {w : World} {d : DK} (h : Dsk w d) (i : Nat) (hi : i < d.n * 96) : w.cell? ⟨d.q, i, none⟩ = some (.int .u8 (d.z.getD i 0)) := by
  simp only [World.cell?, h.rows]
  exact bys_at d.z i (by rw [h.len]; exact hi)
theorem info_sec : (Try.prog.info? 114).map (fun i => (i.zero, i.size, i.bytes)) = some (some (.agg (bys (zer 96))), 96, 96) := by kernel_rfl
theorem made_rows (m n : Nat) (hm : 0 < m) : madeCells (bys (zer m)) (n * m) = bys (zer (n * m)) := by
  apply Array.ext
  · simp [bys, zer, size_madeCells]
  · intro i h1 h2
    have h0 : i % m < m := Nat.mod_lt _ hm
    simp [bys, zer, madeCells, h0]
theorem made_secs (n : Nat) : madeCells (Value.agg (bys (zer 96))).cells (n * 96) = bys (zer (n * 96)) := made_rows 96 n (by omega)
theorem make_secs (w : World) (n : Nat) (hn : n ≤ 64) :
    (Instr.makeSlice 77 (.int .i64 n) (.int .i64 n)).run Try.prog w = .ok (.slice (some ⟨w.heap.size, 0, none⟩) n n) (w.alloc (.cells (bys (zer (n * 96))) 114)) := by
  obtain ⟨i0, hi, hz0, hz1, hz2⟩ := info_parts info_sec
  have := run_make (P := Try.prog) (w := w) 77 114 i0 _ Try.underlying77 hi hz0 .i64 .i64 n n (by omega) (Int.le_refl _) (by rw [hz2]; omega) (by omega)
  rw [this, hz1, Int.toNat_natCast, made_secs]
/-- A new Disk. -/
def DK.new (b q n : Nat) (fu : Option Nat) : DK := ⟨b, q, n, fu, true, zer (n * 96), none, 0, []⟩
/-- How many slots there are. -/
def cnt (x : Int) : Nat := min x.toNat 64
theorem new_any (x : Int) (fu : Option Nat) (w : World) :
    Calls Try.prog 28 #[.int .i64 x, .pointer (fp fu)] w fun e w' => ∃ b q, e = .returned (.pointer (some ⟨b, 0, none⟩)) ∧ Dsk w' (DK.new b q (cnt x) fu) ∧ Up Nul w w' ∧ w.heap.size ≤ b ∧ w.heap.size ≤ q := by
  obtain ⟨n, N⟩ : ∃ n, Hid (cnt x = n) := ⟨_, rfl⟩
  have hn : n ≤ 64 := by rw [← N.out]; unfold cnt; omega
  have i1 : min (max x 0) 64 = (n : Int) := by rw [← N.out]; unfold cnt; omega
  have hmk := make_secs w n hn
  rw [N.out]
  have HN := hid hn
  have HE : Hid (Dsk ((w.alloc (.cells (bys (zer (n * 96))) 114)).alloc (.cells #[.pointer (fp fu), .bool true, .slice (some ⟨w.heap.size, 0, none⟩) n n, .slice none 0 0] 80)) (DK.new (w.heap.size + 1) w.heap.size n fu)) := by
    have hs : (w.alloc (.cells (bys (zer (n * 96))) 114)).heap.size = w.heap.size + 1 := by simp
    refine ⟨?_, ?_, zer_small _, by simp [DK.new, zer], hn, World.ownsRow_nil _ _ _ _, (fun p hp => by cases hp), by simp [DK.new]⟩
    · have := heap_alloc_new (w.alloc (.cells (bys (zer (n * 96))) 114)) (.cells #[.pointer (fp fu), .bool true, .slice (some ⟨w.heap.size, 0, none⟩) n n, .slice none 0 0] 80 (0, 0))
      rw [hs] at this
      exact this
    · rw [Below.heap_alloc _ _ _ (by show w.heap.size < _; rw [hs]; omega)]
      exact heap_alloc_new _ _
  have HU := hid (((Up.refl Nul w).alloc (.cells (bys (zer (n * 96))) 114)).alloc (.cells #[.pointer (fp fu), .bool true, .slice (some ⟨w.heap.size, 0, none⟩) n n, .slice none 0 0] 80))
  generalize fp fu = p at HE HU ⊢
  clear hn
  go_enter Try.func28, Try.ntmps28
  go_wp2
  go_ret
  exact ⟨_, _, rfl, HE.out, HU.out, by omega, Nat.le_refl _⟩
theorem lacks_in (d : DK) (s : Nat) (w : World) (h : Dsk w d) (hs : s < d.n) :
    Calls Try.prog 72 #[.pointer (some ⟨d.b, 0, none⟩), .int .i64 s] w fun e w' => e = .returned (.bool false) ∧ w' = w := by
  have c2 := h.c2
  obtain ⟨b, q, n, fu, live, z, pa, pc, ps⟩ := d
  clear h
  dsimp only at c2 hs ⊢
  have i1 : ¬ (n : Int) ≤ (s : Int) := by omega
  go_enter Try.func72, Try.ntmps72
  go_wp2
  go_ret
  exact ⟨by simp, rfl⟩
theorem lacks_out (d : DK) (x : Int) (w : World) (h : Dsk w d) (hs : x < 0 ∨ (d.n : Int) ≤ x) :
    Calls Try.prog 72 #[.pointer (some ⟨d.b, 0, none⟩), .int .i64 x] w fun e w' => e = .returned (.bool true) ∧ w' = w := by
  have c2 := h.c2
  obtain ⟨b, q, n, fu, live, z, pa, pc, ps⟩ := d
  clear h
  dsimp only at c2 hs ⊢
  by_cases h0 : x < 0
  · clear hs
    go_enter Try.func72, Try.ntmps72
    go_wp2
    go_ret
    exact ⟨by simp, rfl⟩
  · have h1 : (n : Int) ≤ x := by omega
    clear hs
    go_enter Try.func72, Try.ntmps72
    go_wp2
    go_ret
    exact ⟨by simp, rfl⟩

theorem slots_any (d : DK) (w : World) (h : Dsk w d) :
    Calls Try.prog 46 #[.pointer (some ⟨d.b, 0, none⟩)] w fun e w' => e = .returned (.int .i64 (d.n : Nat)) ∧ w' = w := by
  have c2 := h.c2
  obtain ⟨b, q, n, fu, live, z, pa, pc, ps⟩ := d
  clear h
  dsimp only at c2 ⊢
  go_enter Try.func46, Try.ntmps46
  go_wp2
  go_ret
  exact ⟨rfl, rfl⟩
theorem live_any (d : DK) (w : World) (h : Dsk w d) :
    Calls Try.prog 47 #[.pointer (some ⟨d.b, 0, none⟩)] w fun e w' => e = .returned (.bool d.live) ∧ w' = w := by
  have c1 := h.c1
  obtain ⟨b, q, n, fu, live, z, pa, pc, ps⟩ := d
  clear h
  dsimp only at c1 ⊢
  go_enter Try.func47, Try.ntmps47
  go_wp2
  go_ret
  exact ⟨rfl, rfl⟩
theorem Dsk.set1 {w : World} {d : DK} (h : Dsk w d) (l : Bool) : Dsk (w.setCell ⟨d.b, 1, none⟩ (.bool l)) { d with live := l } := by
  have u := (Up.refl (One d.b) w).put rfl 1 (.bool l)
  refine ⟨?_, (u.block _ h.lt_q (fun e => h.bq e.symm)).trans h.rows, h.small, h.len, h.le, own_up h.pend u fun g hg e => h.pb ((show d.pv.ownBlock = some g from hg).trans (congrArg some e)), h.good, h.most⟩
  have := heap_setCell_same w d.b 1 _ _ (.bool l) h.head
  simpa using this
theorem Dsk.set3 {w : World} {d : DK} (h : Dsk w d) : Dsk (w.setCell ⟨d.b, 3, none⟩ (.slice none 0 0)) { d with pa := none, pc := 0, ps := [] } := by
  have u := (Up.refl (One d.b) w).put rfl 3 (.slice none 0 0)
  refine ⟨?_, (u.block _ h.lt_q (fun e => h.bq e.symm)).trans h.rows, h.small, h.len, h.le, World.ownsRow_nil _ _ _ _, (fun p hp => by cases hp), by simp⟩
  have := heap_setCell_same w d.b 3 _ _ (.slice none 0 0) h.head
  simpa using this
theorem fail_any (d : DK) (w : World) (h : Dsk w d) :
    Calls Try.prog 20 #[.pointer (some ⟨d.b, 0, none⟩)] w fun e w' => e = .returned (.tuple #[]) ∧ Dsk w' { d with live := false } ∧ Up (One d.b) w w' := by
  have c1 := h.c1
  have f1 := h.fr 1
  have HE := hid (h.set1 false)
  have HU := hid ((Up.refl (One d.b) w).put rfl 1 (.bool false))
  generalize d.b = b at c1 f1 HE HU ⊢
  clear h
  go_enter Try.func20, Try.ntmps20
  go_wp2
  go_end0
  exact ⟨rfl, HE.out, HU.out⟩
theorem sync_gone (d : DK) (w : World) (h : Dsk w d) (hl : d.live = false) :
    Calls Try.prog 45 #[.pointer (some ⟨d.b, 0, none⟩)] w fun e w' => e = .returned (.int .i64 5) ∧ w' = w := by
  have c1 := h.c1
  rw [hl] at c1
  generalize d.b = b at c1 ⊢
  clear h hl
  go_enter Try.func45, Try.ntmps45
  go_wp2
  go_ret
  exact ⟨rfl, rfl⟩
theorem sync_dead (d : DK) (w : World) (h : Dsk w d) (hl : d.live = true) (hf : FzO w d.fu (some 0)) :
    Calls Try.prog 45 #[.pointer (some ⟨d.b, 0, none⟩)] w fun e w' => e = .returned (.int .i64 4) ∧ w' = w := by
  have c1 := h.c1
  rw [hl] at c1
  have c0 := h.c0
  have HD := hid (dead_any d.fu _ w hf)
  generalize d.b = b at c0 c1 ⊢
  generalize fp d.fu = p at c0 HD
  clear h hl hf
  go_enter Try.func45, Try.ntmps45
  go_wp2_with ((go_at_call 59; (with_reducible refine HD.out.mono ?_); rintro e w1 ⟨rfl, rfl⟩))
  go_ret
  exact ⟨rfl, rfl⟩
theorem sync_good (d : DK) (k : Option Nat) (w : World) (h : Dsk w d) (hl : d.live = true) (hf : FzO w d.fu k) (hk : k ≠ some 0) :
    Calls Try.prog 45 #[.pointer (some ⟨d.b, 0, none⟩)] w fun e w' => e = .returned (.int .i64 0) ∧ Dsk w' { d with pa := none, pc := 0, ps := [] } ∧ Up (One d.b) w w' := by
  have c1 := h.c1
  rw [hl] at c1
  have c0 := h.c0
  have c3 := h.c3
  have f3 := h.fr 3
  have hd := dead_any d.fu k w hf
  rw [show (k == some 0) = false by simpa using hk] at hd
  have HD := hid hd
  have HE := hid h.set3
  have HU := hid ((Up.refl (One d.b) w).put rfl 3 (.slice none 0 0))
  generalize d.b = b at c0 c1 c3 f3 HE HU ⊢
  generalize fp d.fu = p at c0 HD
  generalize d.ps.length = k at c3
  generalize d.pa = pa at c3
  generalize d.pc = pc at c3
  clear h hl hf hk hd
  go_enter Try.func45, Try.ntmps45
  go_wp2_with ((go_at_call 59; (with_reducible refine HD.out.mono ?_); rintro e w1 ⟨rfl, rfl⟩))
  go_ret
  exact ⟨rfl, HE.out, HU.out⟩

theorem read_arg (d : DK) (x : Int) (w : World) (h : Dsk w d) (hs : x < 0 ∨ (d.n : Int) ≤ x) :
    Calls Try.prog 57 #[.pointer (some ⟨d.b, 0, none⟩), .int .i64 x] w fun e w' => e = .returned (.tuple #[.slice none 0 0, .int .i64 1]) ∧ w' = w := by
  have HL := hid (lacks_out d x w h hs)
  generalize d.b = b at HL ⊢
  clear h hs
  go_enter Try.func57, Try.ntmps57
  go_wp2_with ((go_at_call 72; (with_reducible refine HL.out.mono ?_); rintro e w1 ⟨rfl, rfl⟩))
  go_ret2
  exact ⟨rfl, rfl⟩
theorem read_gone (d : DK) (s : Nat) (w : World) (h : Dsk w d) (hs : s < d.n) (hl : d.live = false) :
    Calls Try.prog 57 #[.pointer (some ⟨d.b, 0, none⟩), .int .i64 s] w fun e w' => e = .returned (.tuple #[.slice none 0 0, .int .i64 5]) ∧ w' = w := by
  have HL := hid (lacks_in d s w h hs)
  have c1 := h.c1
  rw [hl] at c1
  generalize d.b = b at HL c1 ⊢
  clear h hs hl
  go_enter Try.func57, Try.ntmps57
  go_wp2_with ((go_at_call 72; (with_reducible refine HL.out.mono ?_); rintro e w1 ⟨rfl, rfl⟩))
  go_ret2
  exact ⟨rfl, rfl⟩
theorem slot_length {w : World} {d : DK} (h : Dsk w d) {s : Nat} (hs : s < d.n) : (d.slot s).length = 96 := by
  unfold DK.slot
  rw [List.length_take, List.length_drop, h.len]
  omega
theorem getD_part (z : List Nat) (o n i : Nat) (hi : i < n) : ((z.drop o).take n).getD i 0 = z.getD (o + i) 0 := by
  simp [List.getD_eq_getElem?_getD, hi, List.getElem?_drop]
theorem Dsk.row {w : World} {d : DK} (h : Dsk w d) {s : Nat} (hs : s < d.n) : Row w d.q (s * 96) (d.slot s) := by
  refine ⟨fun i hi => ?_, fun i => ?_⟩
  · rw [slot_length h hs] at hi
    rw [h.cq _ (by omega), DK.slot, getD_part _ _ _ _ hi]
  · unfold DK.slot
    rcases Nat.lt_or_ge i 96 with hi | hi
    · rw [getD_part _ _ _ _ hi]
      exact small_getD h.small _
    · rw [List.getD_eq_getElem?_getD, List.getElem?_eq_none (by rw [List.length_take]; omega)]
      decide
theorem read_good (d : DK) (s : Nat) (w : World) (h : Dsk w d) (hs : s < d.n) (hl : d.live = true) :
    Calls Try.prog 57 #[.pointer (some ⟨d.b, 0, none⟩), .int .i64 s] w fun e w' => ∃ a c, e = .returned (.tuple #[.slice a 96 c, .int .i64 0]) ∧ Got w w' a 96 c (d.slot s) := by
  have HL := hid (lacks_in d s w h hs)
  have c1 := h.c1
  rw [hl] at c1
  have c2 := h.c2
  have HC := hid (bclone_any (some ⟨d.q, s * 96, none⟩) 96 96 (d.slot s) w ⟨slot_length h hs, .inr ⟨_, _, rfl, h.lt_q, h.row hs⟩, by omega⟩ (fun e => by cases e) (by omega))
  have ha : Addr.add ⟨d.q, 0, none⟩ (s * 96) = ⟨d.q, s * 96, none⟩ := by rw [add_off, Nat.zero_add]
  have i1 : (s : Int) < (d.n : Int) := by omega
  generalize d.slot s = z at HC ⊢
  generalize d.b = b at HL c1 c2 ⊢
  generalize d.n = n at c2 i1
  generalize d.q = q at c2 HC ha
  clear h hs hl
  go_enter Try.func57, Try.ntmps57
  go_wp2_with (first
    | (go_at_call 72; (with_reducible refine HL.out.mono ?_); rintro e w1 ⟨rfl, rfl⟩)
    | (go_at_call 74; (with_reducible refine HC.out.mono ?_); rintro e w1 ⟨a', c, rfl, k1⟩; have K1 := hid k1; clear k1))
  go_ret2
  exact ⟨a', c, rfl, K1.out⟩
/-- The Disk with one byte turned. -/
def DK.rot (d : DK) (i c : Nat) : DK := { d with z := d.z.set i (d.z.getD i 0 ^^^ c) }

/-- Cells laid over others. -/
abbrev lay (off : Nat) (vs cs : Array Value) : Array Value := vs.zipIdx.foldl (fun cs x => cs.setIfInBounds (off + x.2) x.1) cs
theorem fold_at (vs : List Value) : ∀ (off k : Nat) (cs : Array Value), off + k + vs.length ≤ cs.size →
    ((vs.zipIdx k).foldl (fun (cs : Array Value) (p : Value × Nat) => cs.setIfInBounds (off + p.2) p.1) cs).size = cs.size ∧
    ∀ i : Nat, ((vs.zipIdx k).foldl (fun (cs : Array Value) (p : Value × Nat) => cs.setIfInBounds (off + p.2) p.1) cs)[i]? = if off + k ≤ i ∧ i < off + k + vs.length then vs[i - (off + k)]? else cs[i]? := by
  induction vs with
  | nil => intro off k cs h; exact ⟨rfl, fun i => by rw [if_neg (by simp)]; rfl⟩
  | cons v vs ih =>
    intro off k cs h
    simp only [List.length_cons] at h
    rw [List.zipIdx_cons, List.foldl_cons]
    obtain ⟨h1, h2⟩ := ih off (k + 1) (cs.setIfInBounds (off + k) v) (by simp; omega)
    refine ⟨by rw [h1]; simp, fun i => ?_⟩
    rw [h2]
    simp only [List.length_cons]
    by_cases e1 : i = off + k
    · subst e1
      rw [if_neg (by omega), if_pos (by omega), Array.getElem?_setIfInBounds, if_pos rfl, if_pos (by omega)]
      simp
    · by_cases e2 : off + (k + 1) ≤ i ∧ i < off + (k + 1) + vs.length
      · rw [if_pos e2, if_pos (by omega), show i - (off + k) = (i - (off + (k + 1))) + 1 by omega, List.getElem?_cons_succ]
      · rw [if_neg e2, if_neg (by omega), Array.getElem?_setIfInBounds, if_neg (by omega)]
theorem lay_at (off : Nat) (vs cs : Array Value) (h : off + vs.size ≤ cs.size) :
    (lay off vs cs).size = cs.size ∧ ∀ i : Nat, (lay off vs cs)[i]? = if off ≤ i ∧ i < off + vs.size then vs[i - off]? else cs[i]? := by
  have := fold_at vs.toList off 0 cs (by simpa using h)
  simp only [Nat.add_zero, Array.length_toList, Array.getElem?_toList] at this
  have e : lay off vs cs = (vs.toList.zipIdx 0).foldl (fun (cs : Array Value) (p : Value × Nat) => cs.setIfInBounds (off + p.2) p.1) cs := by
    unfold lay
    rw [← Array.foldl_toList, Array.toList_zipIdx]
  rw [e]
  exact this
theorem fill_step (place : Nat → Option (Nat × Nat)) (zero : Array Value) (i : Nat) (v : Value) (rest : List (Nat × Value)) (off : Nat) (h : place i = some (off, v.cells.size)) (hb : off + v.cells.size ≤ zero.size) :
    Instr.fill place zero ((i, v) :: rest) = Instr.fill place (lay off v.cells zero) rest := by
  simp only [Instr.fill, h]
  rw [if_neg (by simp; omega)]
theorem fill_two (place : Nat → Option (Nat × Nat)) (zero cs : Array Value) (n : Int) (h0 : place 0 = some (0, 1)) (h1 : place 1 = some (1, 96)) (hz : zero.size = 97) (hcs : cs.size = 96) :
    Instr.fill place zero [(0, .int .i64 n), (1, .agg cs)] = some ((.int .i64 n :: cs.toList).toArray) := by
  obtain ⟨a1, a2⟩ := lay_at 0 #[.int .i64 n] zero (by simp; omega)
  obtain ⟨b1, b2⟩ := lay_at 1 cs (lay 0 #[.int .i64 n] zero) (by rw [a1]; omega)
  rw [fill_step place zero 0 (.int .i64 n) _ 0 h0 (by simp [Value.cells]; omega), fill_step place _ 1 (.agg cs) _ 1 (by rw [h1, ← hcs]; rfl) (by show 1 + cs.size ≤ (lay 0 #[.int .i64 n] zero).size; rw [a1]; omega)]
  show some (lay 1 cs (lay 0 #[.int .i64 n] zero)) = _
  congr 1
  apply Array.ext_getElem?
  intro i
  rw [b2, a2]
  simp only [List.getElem?_toArray, List.size_toArray, List.length_cons, List.length_nil]
  rcases i with _ | i
  · simp
  · simp only [List.getElem?_cons_succ, Array.getElem?_toList]
    by_cases hi : i < 96
    · rw [if_pos (by omega), show i + 1 - 1 = i by omega]
    · rw [if_neg (by omega), if_neg (by omega), Array.getElem?_eq_none (by omega), Array.getElem?_eq_none (by omega)]
theorem fill_one (zero cs : Array Value) (sz : Nat) (hz : zero.size = sz) (hcs : cs.size = sz) :
    Instr.fill (fun i => some (i * sz, sz)) zero [(0, .agg cs)] = some cs := by
  obtain ⟨a1, a2⟩ := lay_at (0 * sz) cs zero (by omega)
  rw [fill_step _ zero 0 (.agg cs) _ (0 * sz) (by simp [Value.cells, hcs]) (by simp [Value.cells]; omega)]
  show some (lay (0 * sz) cs zero) = _
  congr 1
  apply Array.ext_getElem?
  intro i
  rw [a2]
  by_cases hi : i < sz
  · rw [if_pos (by omega), show i - 0 * sz = i by omega]
  · rw [if_neg (by omega), Array.getElem?_eq_none (by omega), Array.getElem?_eq_none (by omega)]
theorem info_cov : ∃ i z, Try.prog.info? 116 = some i ∧ i.zero = some z ∧ i.size = 97 ∧ i.bytes = 104 ∧ z.cells.size = 97 := by
  have h : (Try.prog.info? 116).map (fun i => (i.size, i.bytes, i.zero.map fun z => z.cells.size)) = some (97, 104, some 97) := by kernel_rfl
  cases e : Try.prog.info? 116 with
  | none => rw [e] at h; cases h
  | some i =>
    rw [e] at h
    simp only [Option.map_some, Option.some.injEq, Prod.mk.injEq, Option.map_eq_some_iff] at h
    obtain ⟨h1, h2, z, h3, h4⟩ := h
    exact ⟨i, z, rfl, h3, h1, h2, h4⟩
theorem info_sec_size : (Try.prog.info? 114).map (·.size) = some 96 := by kernel_rfl
theorem info_int_size : (Try.prog.info? 3).map (·.size) = some 1 := by kernel_rfl
theorem build_cov (n : Int) (cs : Array Value) (hcs : cs.size = 96) (w : World) :
    (Instr.build 116 #[(0, .int .i64 n), (1, .agg cs)]).run Try.prog w = .ok (.agg (.int .i64 n :: cs.toList).toArray) w := by
  obtain ⟨i, z, h1, h2, h3, h4, h5⟩ := info_cov
  obtain ⟨i6, h6, h7⟩ := Option.map_eq_some_iff.1 info_sec_size
  obtain ⟨i8, h8, h9⟩ := Option.map_eq_some_iff.1 info_int_size
  simp [Instr.build, zeroValue, sizeOf, typeInfo, h1, h2, run_underlying Try.underlying116, h6, h7, h8, h9]
  rw [fill_two _ _ _ _ (by simp) (by simp) h5 hcs]
  simp
theorem build_sl (cs : Array Value) (hcs : cs.size = 97) (w : World) :
    (Instr.buildSlice 78 1 #[(0, .agg cs)]).run Try.prog w = .ok (.slice (some ⟨w.heap.size, 0, none⟩) 1 1) (w.alloc (.cells cs 116)) := by
  obtain ⟨i, z, h1, h2, h3, h4, h5⟩ := info_cov
  simp [Instr.buildSlice, zeroValue, sizeOf, typeInfo, h1, h2, h3, run_underlying Try.underlying78]
  rw [fill_one _ _ 97 (by simp) hcs]
  simp [newRow, newObj]
  rfl
theorem pcell_length (p : Nat × List Nat) (h : p.2.length = 96) : (pcell p).length = 97 := by simp [pcell, vals_length, h]
theorem one_vals (z : List Nat) : ∀ v ∈ vals z, v.oneCell' = true := fun v hv => by
  obtain ⟨n, _, rfl⟩ := List.mem_map.1 hv
  rfl
theorem one_pcell (p : Nat × List Nat) : ∀ v ∈ pcell p, v.oneCell' = true := fun v hv => by
  rcases List.mem_cons.1 hv with rfl | hv
  · rfl
  · exact one_vals _ v hv
/-- Where the row lies behind an append. -/
theorem append_where (w w' : World) (v v' : Value) (t ty e : TypeId) (i : TypeInfo) (z : Value) (base n : Nat) (xs : List Value) (ht : Try.prog.underlying t = some (.slice e)) (hi : Try.prog.info? e = some i) (hz : i.zero = some z) (hown : w.ownsRow base e i.size v n xs)
    (a : Addr) (c : Nat) (news : List Value) (hl : news.length = 1 * i.size) (hnews : ∀ j u, news[j]? = some u → w.cell? (a.add j) = some u) (h1 : ∀ u ∈ news, u.oneCell' = true) (h63 : n + 1 ≤ 1000000) (hb : i.bytes ≤ 1000)
    (hrun : (Builtin.append_ #[t, t] ty #[v, .slice (some a) 1 c]).run Try.prog w = .ok v' w') : v'.ownBlock = v.ownBlock ∨ v'.ownBlock = some w.heap.size := by
  have hm : (n + 1) * i.bytes ≤ 140737488355328 := by
    have := Nat.mul_le_mul h63 hb
    omega
  rcases hown.2 with ⟨rfl, rfl⟩ | ⟨g, cap, cur, rfl, hbg, hg, hnc, hcm, hcs, htake⟩
  · have hr := run_append_nil (P := Try.prog) w t ty e i z ht hi hz a 1 c news hl hnews (by omega) (by omega) (by omega)
    rw [hrun] at hr
    injection hr with hr _
    exact .inr (by rw [hr]; rfl)
  · by_cases hroom : n + 1 ≤ cap
    · have hfit : n * i.size + news.length ≤ cur.size := by rw [hl, hcs, ← Nat.add_mul]; exact Nat.mul_le_mul_right _ hroom
      have hr := run_append_room (P := Try.prog) w t ty e i ht hi g n cap cur hg a 1 c news hl hnews h1 hroom hfit
      rw [hrun] at hr
      injection hr with hr _
      exact .inl (by rw [hr]; rfl)
    · have holds : ∀ j u, xs[j]? = some u → w.cell? ((⟨g, 0, none⟩ : Addr).add j) = some u := hown.cells (g := g) rfl
      have hr := run_append_grow (P := Try.prog) w t ty e i z ht hi hz ⟨g, 0, none⟩ n cap xs hown.1 holds a 1 c news hl hnews (by omega) (by omega) (growslice_fits (by omega) hm)
      rw [hrun] at hr
      injection hr with hr _
      exact .inr (by rw [hr]; rfl)
/-- append(d.pending, one). -/
theorem wp_append_cov {w : World} {o : Oper} {a : Act} {K : Act → World → Prop} {Q : Exit → Act → World → Prop} (s x : Operand)
    (ho : o.op = .call { callee := .builtin .append, args := #[s, x], argTypes := #[78, 78] }) (v : Value) (ps : List (Nat × List Nat)) (hs : a.eval s = v) (hown : w.ownsRow 0 116 97 v ps.length (pcells ps))
    (bk : Nat) (p : Nat × List Nat) (hx : a.eval x = .slice (some ⟨bk, 0, none⟩) 1 1) (hb : w.heap[bk]? = some (.cells (pcell p).toArray 116 (0, 0))) (hp : p.2.length = 96) (hl : ps.length ≤ 900000)
    (h : ∀ v' w', Hid (w'.ownsRow 0 116 97 v' (ps ++ [p]).length (pcells (ps ++ [p]))) → Hid (w.grownBy w' v.ownBlock) → Hid (v'.ownBlock = v.ownBlock ∨ v'.ownBlock = some w.heap.size) → K (a.put o.dst v') w') : Oper.wp Try.prog o a w K Q := by
  obtain ⟨i0, z0, hi, hz, hz1, hz2, hz3⟩ := info_cov
  obtain ⟨v', w', hrun, g1, g2, _⟩ := run_append_own (P := Try.prog) w 0 78 o.type 116 i0 z0 97 i0.bytes Try.underlying78 hi hz hz1 rfl hz3 (by decide) v ps.length _ hown ⟨bk, 0, none⟩ 1 1 (pcell p) (by rw [pcell_length p hp])
    (fun j u hj => by
      rw [add_off, Nat.zero_add]
      simp only [World.cell?, hb]
      simpa using hj) (one_pcell p) (by unfold maxLen; omega) (by rw [hz2]; omega) (Nat.zero_le _)
  unfold Oper.wp
  simp [execOp, ho, resolve, invoke, builtin, hs, hx, hrun, Result.andThen]
  refine h v' w' (by rw [pcells_append, List.length_append]; exact g1) g2 (append_where w w' v v' _ _ _ i0 z0 0 ps.length _ Try.underlying78 hi hz (by rw [hz1]; exact hown) ⟨bk, 0, none⟩ 1 (pcell p) (by rw [pcell_length p hp, hz1]) (fun j u hj => by
      rw [add_off, Nat.zero_add]
      simp only [World.cell?, hb]
      simpa using hj) (one_pcell p) (by omega) (by rw [hz2]; omega) hrun)
/-- copy into a slot. -/
theorem run_copy_slot (w : World) (ty : TypeId) (d : DK) (h : Dsk w d) (o n m dCap : Nat) (a : Option Addr) (sCap : Nat) (y : List Nat) (hr : SlN w a m y) (hm : min m n = m) (hfit : o + m ≤ d.n * 96) :
    ∃ w', (Builtin.copy_ #[47, 47] ty #[.slice (some ⟨d.q, o, none⟩) n dCap, .slice a m sCap]).run Try.prog w = .ok (goInt m) w' ∧ Dsk w' { d with z := over d.z o y } ∧ Up (One d.q) w w' := by
  have hy := hr.len
  rcases hr.row with rfl | ⟨b, so, rfl, hb, r⟩
  · obtain rfl : y = [] := List.eq_nil_of_length_eq_zero hy
    exact ⟨w, run_copy_none (P := Try.prog) w _ _ ty 5 _ _ _ _ _ _ Try.underlying47 info_u8_size (Nat.zero_min _), by simpa [over] using h, Up.refl _ _⟩
  · have hsrc : ∀ (j : Nat) (v : Value), (vals y)[j]? = some v → w.cell? (Addr.add ⟨b, so, none⟩ j) = some v := by
      intro j v hv
      unfold vals at hv
      rw [List.getElem?_map] at hv
      have hj : j < y.length := by
        rcases Nat.lt_or_ge j y.length with h | h
        · exact h
        · rw [List.getElem?_eq_none h] at hv; cases hv
      rw [List.getElem?_eq_getElem hj] at hv
      have hc := r.cells j hj
      rw [List.getD_eq_getElem?_getD, List.getElem?_eq_getElem hj] at hc
      rw [add_off, hc]
      exact hv
    have hlm : (vals y).length = m := by rw [vals_length, hy]
    have hrun := run_copy_row (P := Try.prog) w 47 47 ty 5 d.q o n dCap ⟨b, so, none⟩ m sCap (bys d.z) 114 (vals y) Try.underlying47 info_u8_size h.rows
      (by rw [hlm]; exact hm.symm) hsrc (by rw [hlm, bys_size, h.len]; exact hfit) (one_vals y)
    rw [hlm] at hrun
    have e : ((bys d.z).toList.take o ++ vals y ++ (bys d.z).toList.drop (o + m)).toArray = bys (over d.z o y) := by
      simp [bys, over, vals, hy]
    rw [e] at hrun
    have u : Up (One d.q) w (w.setRow d.q (bys (over d.z o y))) := ⟨rfl, rfl, rfl, by simp [World.setRow], fun k hk hs => setRow_other w d.q k _ hs⟩
    refine ⟨_, hrun, ⟨(u.block _ h.lt_b h.bq).trans h.head, setRow_heap w d.q _ _ _ _ h.rows, fun x hx => ?_, by rw [over_length (by rw [h.len, hy]; exact hfit)]; exact h.len, h.le, own_up h.pend u fun g hg e => h.pq ((show d.pv.ownBlock = some g from hg).trans (congrArg some e)), h.good, h.most⟩, u⟩
    unfold over at hx
    rcases List.mem_append.1 hx with hx | hx
    · rcases List.mem_append.1 hx with hx | hx
      · exact h.small x (List.mem_of_mem_take hx)
      · obtain ⟨i, hi, rfl⟩ := List.mem_iff_getElem.1 hx
        have := r.small i
        rwa [List.getD_eq_getElem?_getD, List.getElem?_eq_getElem hi] at this
    · exact h.small x (List.mem_of_mem_drop hx)
/-- A slot, loaded whole. -/
theorem Dsk.range {w : World} {d : DK} (h : Dsk w d) {s : Nat} (hs : s < d.n) : w.rangeAt d.q (s * 96) (vals (d.slot s)) := fun j v hv => by
  unfold vals at hv
  rw [List.getElem?_map] at hv
  have hj : j < (d.slot s).length := by
    rcases Nat.lt_or_ge j (d.slot s).length with h | h
    · exact h
    · rw [List.getElem?_eq_none h] at hv; cases hv
  rw [List.getElem?_eq_getElem hj] at hv
  have hc := (h.row hs).cells j hj
  rw [List.getD_eq_getElem?_getD, List.getElem?_eq_getElem hj] at hc
  rw [hc]
  exact hv
theorem exec_build (o : Oper) (ev : Operand → Value) (t : TypeId) (parts : Array (Nat × Operand)) (ho : o.op = .build t parts) (vs : Array (Nat × Value)) (hvs : parts.map (fun p => (p.1, ev p.2)) = vs) (v : Value) (w : World) (h : (Instr.build t vs).run Try.prog w = .ok v w) :
    (execOp ev o).run Try.prog w = .ok (.value v) w := by
  unfold execOp
  simp only [ho]
  have e : parts.map (fun x => match x with | (i, p) => (i, ev p)) = vs := hvs
  simp [e, h]
theorem exec_slice (o : Oper) (ev : Operand → Value) (t : TypeId) (n : Nat) (parts : Array (Nat × Operand)) (ho : o.op = .buildSlice t n parts) (vs : Array (Nat × Value)) (hvs : parts.map (fun p => (p.1, ev p.2)) = vs) (v : Value) (w w' : World) (h : (Instr.buildSlice t n vs).run Try.prog w = .ok v w') :
    (execOp ev o).run Try.prog w = .ok (.value v) w' := by
  unfold execOp
  simp only [ho]
  have e : parts.map (fun x => match x with | (i, p) => (i, ev p)) = vs := hvs
  simp [e, h]
theorem wp_exec {w w' : World} {o : Oper} {a : Act} {K : Act → World → Prop} {Q : Exit → Act → World → Prop} {v : Value} (h : (execOp a.eval o).run Try.prog w = .ok (.value v) w') (hk : K (a.put o.dst v) w') : Oper.wp Try.prog o a w K Q := by
  unfold Oper.wp
  rw [h]
  exact hk

theorem write_slot (d : DK) (x : Int) (a : Option Addr) (m cap : Nat) (w : World) (h : Dsk w d) (hs : x < 0 ∨ (d.n : Int) ≤ x) :
    Calls Try.prog 56 #[.pointer (some ⟨d.b, 0, none⟩), .int .i64 x, .slice a m cap] w fun e w' => e = .returned (.int .i64 1) ∧ w' = w := by
  have HL := hid (lacks_out d x w h hs)
  generalize d.b = b at HL ⊢
  clear h hs
  go_enter Try.func56, Try.ntmps56
  go_wp2_with ((go_at_call 72; (with_reducible refine HL.out.mono ?_); rintro e w1 ⟨rfl, rfl⟩))
  go_ret
  exact ⟨rfl, rfl⟩
theorem write_len (d : DK) (s : Nat) (a : Option Addr) (m cap : Nat) (w : World) (h : Dsk w d) (hs : s < d.n) (hm : m ≠ 96) :
    Calls Try.prog 56 #[.pointer (some ⟨d.b, 0, none⟩), .int .i64 s, .slice a m cap] w fun e w' => e = .returned (.int .i64 1) ∧ w' = w := by
  have HL := hid (lacks_in d s w h hs)
  generalize d.b = b at HL ⊢
  have i1 : ((m : Int) == 96) = false := by simp; omega
  have i2 : ¬ (m : Int) = 96 := by omega
  clear h hs
  go_enter Try.func56, Try.ntmps56
  go_wp2_with ((go_at_call 72; (with_reducible refine HL.out.mono ?_); rintro e w1 ⟨rfl, rfl⟩))
  go_ret
  exact ⟨rfl, rfl⟩
theorem write_gone (d : DK) (s : Nat) (a : Option Addr) (cap : Nat) (w : World) (h : Dsk w d) (hs : s < d.n) (hl : d.live = false) :
    Calls Try.prog 56 #[.pointer (some ⟨d.b, 0, none⟩), .int .i64 s, .slice a 96 cap] w fun e w' => e = .returned (.int .i64 5) ∧ w' = w := by
  have HL := hid (lacks_in d s w h hs)
  have c1 := h.c1
  rw [hl] at c1
  generalize d.b = b at HL c1 ⊢
  clear h hs hl
  go_enter Try.func56, Try.ntmps56
  go_wp2_with ((go_at_call 72; (with_reducible refine HL.out.mono ?_); rintro e w1 ⟨rfl, rfl⟩))
  go_ret
  exact ⟨rfl, rfl⟩
theorem write_dead (d : DK) (s : Nat) (a : Option Addr) (cap : Nat) (w : World) (h : Dsk w d) (hs : s < d.n) (hl : d.live = true) (hf : FzO w d.fu (some 0)) :
    Calls Try.prog 56 #[.pointer (some ⟨d.b, 0, none⟩), .int .i64 s, .slice a 96 cap] w fun e w' => e = .returned (.int .i64 4) ∧ w' = w := by
  have HL := hid (lacks_in d s w h hs)
  have HD := hid (spend_dead d.fu w hf)
  have c1 := h.c1
  rw [hl] at c1
  have c0 := h.c0
  generalize d.b = b at HL c1 c0 ⊢
  generalize fp d.fu = p at c0 HD
  clear h hs hl hf
  go_enter Try.func56, Try.ntmps56
  go_wp2_with (first
    | (go_at_call 72; (with_reducible refine HL.out.mono ?_); rintro e w1 ⟨rfl, rfl⟩)
    | (go_at_call 73; (with_reducible refine HD.out.mono ?_); rintro e w1 ⟨rfl, rfl⟩))
  go_ret
  exact ⟨rfl, rfl⟩
theorem Dsk.grow {w w2 : World} {d : DK} (h : Dsk w d) (p : Nat × List Nat) (hp : p.1 < d.n ∧ p.2.length = 96 ∧ ∀ x ∈ p.2, x < 256) (hm : d.ps.length < 1000) (v' : Value) (own : w2.ownsRow 0 116 97 v' (d.ps ++ [p]).length (pcells (d.ps ++ [p]))) (u : Up (fun k => d.pv.ownBlock = some k) w w2) :
    ∃ pa pc, v' = .slice pa (d.ps.length + 1) pc ∧ Dsk (w2.setCell ⟨d.b, 3, none⟩ v') { d with pa := pa, pc := pc, ps := d.ps ++ [p] } := by
  have hn : (d.ps ++ [p]).length = d.ps.length + 1 := by simp
  rcases own.2 with ⟨_, e⟩ | ⟨g, cap, cur, rfl, hbg, hg, hrest⟩
  · rw [hn] at e; omega
  · rw [hn]
    have hb2 := (u.block _ h.lt_b h.pb).trans h.head
    have hq2 := (u.block _ h.lt_q h.pq).trans h.rows
    have u2 := (Up.refl (One d.b) w2).put rfl 3 (.slice (some ⟨g, 0, none⟩) (d.ps.length + 1) cap)
    refine ⟨_, _, rfl, ?_, (u2.block _ (Array.getElem?_eq_some_iff.1 hq2).1 (fun e => h.bq e.symm)).trans hq2, h.small, h.len, h.le, ?_, ?_, ?_⟩
    · have := heap_setCell_same w2 d.b 3 _ _ (.slice (some ⟨g, 0, none⟩) (d.ps.length + 1) cap) hb2
      simpa using this
    · refine ⟨own.1, .inr ⟨g, cap, cur, by simp [DK.pv], hbg, ?_, hrest⟩⟩
      rw [u2.block g (Array.getElem?_eq_some_iff.1 hg).1 (fun e => ne_type hb2 hg (by decide) (by unfold One at e; exact e.symm))]
      exact hg
    · intro x hx
      rcases List.mem_append.1 hx with hx | hx
      · exact h.good x hx
      · obtain rfl : x = p := by simpa using hx
        exact hp
    · show (d.ps ++ [p]).length ≤ 1000
      omega
/-- What a write leaves: where it lies, and what it holds. -/
structure Put (w : World) (d : DK) (s : Nat) (y : List Nat) (w' : World) (d' : DK) : Prop where
  dsk : Dsk w' d'
  at_ : ∃ pa pc, d' = { d with pa := pa, pc := pc, ps := d.ps ++ [(s, d.slot s)], z := over d.z (s * 96) y }
  foot : ∀ k, d'.foot k → d.foot k ∨ w.heap.size ≤ k
  up : Up (fun k => d.foot k ∨ d.fu = some k) w w'
theorem foot_fuse {w : World} {d : DK} (h : Dsk w d) {k : Option Nat} (hf : FzO w d.fu k) : ∀ g, d.foot g → d.fu ≠ some g := by
  intro g hg e
  have hz : Fz w g k := by
    have := hf
    rw [e] at this
    exact this
  rcases hg with rfl | rfl | hg
  · exact ne_type h.head hz.heap (by decide) rfl
  · exact ne_type h.rows hz.heap (by decide) rfl
  · obtain ⟨cur, e2⟩ := h.pend_row hg
    exact ne_type e2 hz.heap (by decide) rfl
end Go.Proofs.Ytcejdobmgbielaa
