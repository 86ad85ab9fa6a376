/- A Disk in memory: its slots, what is pending; 'New', 'lacks'. -/
import Derived.Test.YtfmgbmpdifjliaaDkBase
namespace Go.Proofs.Ytfmgbmpdifjliaa
open Go.RowKit
set_option linter.unusedVariables false

/-! ### A Disk -/
def vals (z : List Nat) : List Value := z.map fun (n : Nat) => Value.int .u8 (n : Int)
theorem vals_length (z : List Nat) : (vals z).length = z.length := by simp [vals]
/-- What a pending write holds: the slot, and what was there. -/
def pcell (p : Nat × List Nat) : List Value := .int .i64 ((p.1 : Nat) : Int) :: vals p.2
def pcells (ps : List (Nat × List Nat)) : List Value := (ps.map pcell).flatten
theorem pcells_append (ps : List (Nat × List Nat)) (p : Nat × List Nat) : pcells (ps ++ [p]) = pcells ps ++ pcell p := by simp [pcells]
/-- Where a Disk lies, and what it holds. -/
structure DK where
  b : Nat
  q : Nat
  n : Nat
  fu : Option Nat
  live : Bool
  z : List Nat
  pa : Option Addr
  pc : Nat
  ps : List (Nat × List Nat)
/-- A slot's bytes. -/
def DK.slot (d : DK) (s : Nat) : List Nat := (d.z.drop (s * 96)).take 96
def DK.pv (d : DK) : Value := .slice d.pa d.ps.length d.pc
structure Dsk (w : World) (d : DK) : Prop where
  head : w.heap[d.b]? = some (.cells #[.pointer (fp d.fu), .bool d.live, .slice (some ⟨d.q, 0, none⟩) d.n d.n, .slice d.pa d.ps.length d.pc] 75 (0, 0))
  rows : w.heap[d.q]? = some (.cells (bys d.z) 83 (0, 0))
  small : ∀ x ∈ d.z, x < 256
  len : d.z.length = d.n * 96
  le : d.n ≤ 64
  pend : w.ownsRow 0 100 97 d.pv d.ps.length (pcells d.ps)
  good : ∀ p ∈ d.ps, p.1 < d.n ∧ p.2.length = 96 ∧ ∀ x ∈ p.2, x < 256
  most : d.ps.length ≤ 1000
/-- The blocks of a Disk. -/
def DK.foot (d : DK) (k : Nat) : Prop := k = d.b ∨ k = d.q ∨ d.pv.ownBlock = some k
theorem ne_type {w : World} {i j : Nat} {a b : Array Value} {s t : TypeId} {f g : Nat × Nat} (h : w.heap[i]? = some (.cells a s f)) (k : w.heap[j]? = some (.cells b t g)) (hst : s ≠ t) : i ≠ j := by
  rintro rfl
  rw [h] at k
  injection k with k
  injection k with _ k _
  exact hst k
theorem Dsk.lt_b {w : World} {d : DK} (h : Dsk w d) : d.b < w.heap.size := (Array.getElem?_eq_some_iff.1 h.head).1
theorem Dsk.lt_q {w : World} {d : DK} (h : Dsk w d) : d.q < w.heap.size := (Array.getElem?_eq_some_iff.1 h.rows).1
theorem Dsk.bq {w : World} {d : DK} (h : Dsk w d) : d.b ≠ d.q := ne_type h.head h.rows (by decide)
theorem Dsk.pend_row {w : World} {d : DK} (h : Dsk w d) {g : Nat} (hg : d.pv.ownBlock = some g) : ∃ cur, w.heap[g]? = some (.cells cur 100 (0, 0)) := by
  rcases h.pend.2 with ⟨e, _⟩ | ⟨g', cap, cur, e, _, e2, _⟩
  · rw [e] at hg; cases hg
  · rw [e] at hg
    obtain rfl : g' = g := by simpa [Value.ownBlock] using hg
    exact ⟨cur, e2⟩
theorem Dsk.foot_lt {w : World} {d : DK} (h : Dsk w d) {k : Nat} (hk : d.foot k) : k < w.heap.size := by
  rcases hk with rfl | rfl | hk
  · exact h.lt_b
  · exact h.lt_q
  · obtain ⟨cur, e⟩ := h.pend_row hk
    exact (Array.getElem?_eq_some_iff.1 e).1
theorem Dsk.pb {w : World} {d : DK} (h : Dsk w d) : d.pv.ownBlock ≠ some d.b := fun e => by
  obtain ⟨cur, k⟩ := h.pend_row e
  exact ne_type h.head k (by decide) rfl
theorem Dsk.pq {w : World} {d : DK} (h : Dsk w d) : d.pv.ownBlock ≠ some d.q := fun e => by
  obtain ⟨cur, k⟩ := h.pend_row e
  exact ne_type h.rows k (by decide) rfl
theorem own_up {S : Nat → Prop} {base n sz : Nat} {T : TypeId} {w w' : World} {v : Value} {xs : List Value} (h : w.ownsRow base T sz v n xs) (u : Up S w w') (hs : ∀ g, v.ownBlock = some g → ¬ S g) : w'.ownsRow base T sz v n xs := by
  refine ⟨h.1, ?_⟩
  rcases h.2 with hn | ⟨g, cap, cur, h1, h2, h3, h4⟩
  · exact .inl hn
  · exact .inr ⟨g, cap, cur, h1, h2, (u.block g (Array.getElem?_eq_some_iff.1 h3).1 (hs g (by rw [h1]; rfl))).trans h3, h4⟩
theorem Dsk.up {S : Nat → Prop} {w w' : World} {d : DK} (h : Dsk w d) (u : Up S w w') (hs : ∀ k, d.foot k → ¬ S k) : Dsk w' d :=
  ⟨(u.block _ h.lt_b (hs _ (.inl rfl))).trans h.head, (u.block _ h.lt_q (hs _ (.inr (.inl rfl)))).trans h.rows, h.small, h.len, h.le, own_up h.pend u fun g hg => hs g (.inr (.inr hg)), h.good, h.most⟩
theorem Dsk.nxt {w w' : World} {d : DK} (h : Dsk w d) (u : Up Nul w w') : Dsk w' d := h.up u fun _ _ => id
theorem Dsk.c0 {w : World} {d : DK} (h : Dsk w d) : w.cell? ⟨d.b, 0, none⟩ = some (.pointer (fp d.fu)) := by simp [World.cell?, h.head]
theorem Dsk.c1 {w : World} {d : DK} (h : Dsk w d) : w.cell? ⟨d.b, 1, none⟩ = some (.bool d.live) := by simp [World.cell?, h.head]
theorem Dsk.c2 {w : World} {d : DK} (h : Dsk w d) : w.cell? ⟨d.b, 2, none⟩ = some (.slice (some ⟨d.q, 0, none⟩) d.n d.n) := by simp [World.cell?, h.head]
theorem Dsk.c3 {w : World} {d : DK} (h : Dsk w d) : w.cell? ⟨d.b, 3, none⟩ = some (.slice d.pa d.ps.length d.pc) := by simp [World.cell?, h.head]
theorem Dsk.fr {w : World} {d : DK} (h : Dsk w d) (i : Nat) : w.frozen? ⟨d.b, i, none⟩ = false := by simp [World.frozen?, h.head]
theorem Dsk.frq {w : World} {d : DK} (h : Dsk w d) (i : Nat) : w.frozen? ⟨d.q, i, none⟩ = false := by simp [World.frozen?, h.rows]
theorem Dsk.cq {w : World} {d : DK} (h : Dsk w d) (i : Nat) (hi : i < d.n * 96) : w.cell? ⟨d.q, i, none⟩ = some (.int .u8 (d.z.getD i 0)) := by
  simp only [World.cell?, h.rows]
  exact bys_at d.z i (by rw [h.len]; exact hi)

/-! ### 'New' -/
theorem info_sec : (Try.prog.info? 83).map (fun i => (i.zero, i.size, i.bytes)) = some (some (.agg (bys (zer 96))), 96, 96) := by kernel_rfl
theorem made_rows (m n : Nat) (hm : 0 < m) : madeCells (bys (zer m)) (n * m) = bys (zer (n * m)) := by
  apply Array.ext
  · simp [bys, zer, size_madeCells]
  · intro i h1 h2
    have h0 : i % m < m := Nat.mod_lt _ hm
    simp [bys, zer, madeCells, h0]
theorem made_secs (n : Nat) : madeCells (Value.agg (bys (zer 96))).cells (n * 96) = bys (zer (n * 96)) := made_rows 96 n (by omega)
theorem make_secs (w : World) (n : Nat) (hn : n ≤ 64) :
    (Instr.makeSlice 72 (.int .i64 n) (.int .i64 n)).run Try.prog w = .ok (.slice (some ⟨w.heap.size, 0, none⟩) n n) (w.alloc (.cells (bys (zer (n * 96))) 83)) := by
  obtain ⟨i0, hi, hz0, hz1, hz2⟩ := info_parts info_sec
  have := run_make (P := Try.prog) (w := w) 72 83 i0 _ Try.underlying72 hi hz0 .i64 .i64 n n (by omega) (Int.le_refl _) (by rw [hz2]; omega) (by omega)
  rw [this, hz1, Int.toNat_natCast, made_secs]
/-- A new Disk. -/
def DK.new (b q n : Nat) (fu : Option Nat) : DK := ⟨b, q, n, fu, true, zer (n * 96), none, 0, []⟩
/-- How many slots there are. -/
def cnt (x : Int) : Nat := min x.toNat 64
theorem new_any (x : Int) (fu : Option Nat) (w : World) :
    Calls Try.prog 8 #[.int .i64 x, .pointer (fp fu)] w fun e w' => ∃ b q, e = .returned (.pointer (some ⟨b, 0, none⟩)) ∧ Dsk w' (DK.new b q (cnt x) fu) ∧ Up Nul w w' ∧ w.heap.size ≤ b ∧ w.heap.size ≤ q := by
  obtain ⟨n, N⟩ : ∃ n, Hid (cnt x = n) := ⟨_, rfl⟩
  have hn : n ≤ 64 := by rw [← N.out]; unfold cnt; omega
  have i1 : min (max x 0) 64 = (n : Int) := by rw [← N.out]; unfold cnt; omega
  have hmk := make_secs w n hn
  rw [N.out]
  have HN := hid hn
  have HE : Hid (Dsk ((w.alloc (.cells (bys (zer (n * 96))) 83)).alloc (.cells #[.pointer (fp fu), .bool true, .slice (some ⟨w.heap.size, 0, none⟩) n n, .slice none 0 0] 75)) (DK.new (w.heap.size + 1) w.heap.size n fu)) := by
    have hs : (w.alloc (.cells (bys (zer (n * 96))) 83)).heap.size = w.heap.size + 1 := by simp
    refine ⟨?_, ?_, zer_small _, by simp [DK.new, zer], hn, World.ownsRow_nil _ _ _ _, (fun p hp => by cases hp), by simp [DK.new]⟩
    · have := heap_alloc_new (w.alloc (.cells (bys (zer (n * 96))) 83)) (.cells #[.pointer (fp fu), .bool true, .slice (some ⟨w.heap.size, 0, none⟩) n n, .slice none 0 0] 75 (0, 0))
      rw [hs] at this
      exact this
    · rw [Below.heap_alloc _ _ _ (by show w.heap.size < _; rw [hs]; omega)]
      exact heap_alloc_new _ _
  have HU := hid (((Up.refl Nul w).alloc (.cells (bys (zer (n * 96))) 83)).alloc (.cells #[.pointer (fp fu), .bool true, .slice (some ⟨w.heap.size, 0, none⟩) n n, .slice none 0 0] 75))
  generalize fp fu = p at HE HU ⊢
  clear hn
  go_enter Try.func8, Try.ntmps8
  go_wp2
  go_ret
  exact ⟨_, _, rfl, HE.out, HU.out, by omega, Nat.le_refl _⟩
theorem lacks_in (d : DK) (s : Nat) (w : World) (h : Dsk w d) (hs : s < d.n) :
    Calls Try.prog 45 #[.pointer (some ⟨d.b, 0, none⟩), .int .i64 s] w fun e w' => e = .returned (.bool false) ∧ w' = w := by
  have c2 := h.c2
  obtain ⟨b, q, n, fu, live, z, pa, pc, ps⟩ := d
  clear h
  dsimp only at c2 hs ⊢
  have i1 : ¬ (n : Int) ≤ (s : Int) := by omega
  go_enter Try.func45, Try.ntmps45
  go_wp2
  go_ret
  exact ⟨by simp, rfl⟩
theorem lacks_out (d : DK) (x : Int) (w : World) (h : Dsk w d) (hs : x < 0 ∨ (d.n : Int) ≤ x) :
    Calls Try.prog 45 #[.pointer (some ⟨d.b, 0, none⟩), .int .i64 x] w fun e w' => e = .returned (.bool true) ∧ w' = w := by
  have c2 := h.c2
  obtain ⟨b, q, n, fu, live, z, pa, pc, ps⟩ := d
  clear h
  dsimp only at c2 hs ⊢
  by_cases h0 : x < 0
  · clear hs
    go_enter Try.func45, Try.ntmps45
    go_wp2
    go_ret
    exact ⟨by simp, rfl⟩
  · have h1 : (n : Int) ≤ x := by omega
    clear hs
    go_enter Try.func45, Try.ntmps45
    go_wp2
    go_ret
    exact ⟨by simp, rfl⟩
end Go.Proofs.Ytfmgbmpdifjliaa
