/- The document's Bay: what it knows, what its calls tell. -/
import Derived.Test.YtfmgbmpdifjliaaPlaysOps
import Derived.Test.YtfmgbmpdifjliaaFrameLaw
import Derived.Test.YtfmgbmpdifjliaaOwnV
namespace Go.Proofs.Ytfmgbmpdifjliaa
open Go.RowKit
set_option linter.unusedVariables false

/-- A row of Booleans, as cells. -/
def bls (n : Nat) (U : Nat → Bool) : Array Value := ((List.range n).map fun i => Value.bool (U i)).toArray
theorem bls_size (n : Nat) (U : Nat → Bool) : (bls n U).size = n := by simp [bls]
theorem bls_at {n i : Nat} (U : Nat → Bool) (h : i < n) : (bls n U)[i]? = some (.bool (U i)) := by simp [bls, h]
def updB (U : Nat → Bool) (i : Nat) (b : Bool) (j : Nat) : Bool := if j = i then b else U j
theorem bls_set {n i : Nat} (U : Nat → Bool) (b : Bool) (h : i < n) : (bls n U).setIfInBounds i (.bool b) = bls n (updB U i b) := by
  apply Array.ext
  · simp [bls]
  · intro k h1 h2
    have hk : k < n := by simpa [bls] using h2
    rw [Array.getElem_setIfInBounds (by simpa [bls] using hk)]
    by_cases e : i = k
    · subst e; simp [bls, updB]
    · have e2 : ¬ k = i := fun h => e h.symm
      simp [bls, updB, e, e2]
/-- A row of Booleans in a block of its own. -/
structure BR (w : World) (q n : Nat) (U : Nat → Bool) : Prop where
  heap : w.heap[q]? = some (.cells (bls n U) 4 (0, 0))
section
variable {w w' : World} {q n : Nat} {U : Nat → Bool}
theorem BR.lt (h : BR w q n U) : q < w.heap.size := (Array.getElem?_eq_some_iff.1 h.heap).1
theorem BR.cell (h : BR w q n U) {i : Nat} (hi : i < n) : w.cell? ⟨q, i, none⟩ = some (.bool (U i)) := by
  simp only [World.cell?, h.heap]
  exact bls_at U hi
theorem BR.froz (h : BR w q n U) (i : Nat) : w.frozen? ⟨q, i, none⟩ = false := by simp [World.frozen?, h.heap]
theorem BR.up {S : Nat → Prop} (h : BR w q n U) (u : Up S w w') (hs : ¬ S q) : BR w' q n U := ⟨(u.block q h.lt hs).trans h.heap⟩
theorem BR.set (h : BR w q n U) {i : Nat} (hi : i < n) (b : Bool) : BR (w.setCell ⟨q, i, none⟩ (.bool b)) q n (updB U i b) :=
  ⟨by rw [heap_setCell_same w q i _ _ _ h.heap, bls_set U b hi]⟩
end
theorem made_bls (n : Nat) : madeCells (Value.bool false).cells (n * 1) = bls n fun _ => false := by
  apply Array.ext
  · simp [bls, size_madeCells, Value.cells]
  · intro i h1 h2
    have h0 : i % 1 = 0 := Nat.mod_one i
    simp [bls, madeCells, Value.cells, h0]
theorem info_bool : (Try.prog.info? 4).map (fun i => (i.zero, i.size, i.bytes)) = some (some (.bool false), 1, 1) := by kernel_rfl
/-- make([]bool, n). -/
theorem make_bools (w : World) (n : Nat) (hn : n ≤ 140737488355328) :
    (Instr.makeSlice 68 (.int .i64 n) (.int .i64 n)).run Try.prog w = .ok (.slice (some ⟨w.heap.size, 0, none⟩) n n) (w.alloc (.cells (bls n fun _ => false) 4)) := by
  obtain ⟨i0, hi, hz0, hz1, hz2⟩ := info_parts info_bool
  have := run_make (P := Try.prog) (w := w) 68 4 i0 (.bool false) Try.underlying68 hi hz0 .i64 .i64 n n (by omega) (Int.le_refl _) (by rw [hz2]; omega) (by omega)
  rw [this, hz1, Int.toNat_natCast, made_bls]
/-- Which is the first that is not used; which are. -/
def fst0 (U : Nat → Bool) : Nat → Nat → Option Nat
  | 0, _ => none
  | k + 1, i => if U i then fst0 U k (i + 1) else some i
def us (U : Nat → Bool) : Nat → List Nat
  | 0 => []
  | k + 1 => if U k then us U k ++ [k] else us U k
def usV (U : Nat → Bool) (k : Nat) : List Value := (us U k).map fun i => Value.int .i64 (i : Nat)
theorem us_length (U : Nat → Bool) (k : Nat) : (us U k).length ≤ k := by
  induction k with
  | zero => exact Nat.le_refl _
  | succ k ih =>
    rw [us]
    split
    · rw [List.length_append]; exact Nat.succ_le_succ ih
    · omega
theorem us_yes {U : Nat → Bool} {k : Nat} (h : U k = true) : us U (k + 1) = us U k ++ [k] := by rw [us, if_pos h]
theorem us_no {U : Nat → Bool} {k : Nat} (h : U k = false) : us U (k + 1) = us U k := by rw [us, if_neg (by rw [h]; decide)]
theorem usV_yes {U : Nat → Bool} {k : Nat} (h : U k = true) : usV U (k + 1) = usV U k ++ [.int .i64 (k : Nat)] := by rw [usV, us_yes h, List.map_append]; rfl
theorem usV_no {U : Nat → Bool} {k : Nat} (h : U k = false) : usV U (k + 1) = usV U k := by rw [usV, us_no h, usV]
theorem usV_length (U : Nat → Bool) (k : Nat) : (usV U k).length = (us U k).length := by simp [usV]
theorem fst0_yes {U : Nat → Bool} {i : Nat} (k : Nat) (h : U i = true) : fst0 U (k + 1) i = fst0 U k (i + 1) := by rw [fst0, if_pos h]
theorem fst0_no {U : Nat → Bool} {i : Nat} (k : Nat) (h : U i = false) : fst0 U (k + 1) i = some i := by rw [fst0, if_neg (by rw [h]; decide)]

/-- The document's Bay in a block: its Disk, its row. -/
structure RB (w : World) (bb m ub n : Nat) (U : Nat → Bool) : Prop where
  head : w.heap[bb]? = some (.cells #[.pointer (some ⟨m, 0, none⟩), .slice (some ⟨ub, 0, none⟩) n n] 89 (0, 0))
  row : BR w ub n U
  le : n ≤ 64
section
variable {w w' : World} {bb m ub n : Nat} {U : Nat → Bool}
theorem RB.c0 (h : RB w bb m ub n U) : w.cell? ⟨bb, 0, none⟩ = some (.pointer (some ⟨m, 0, none⟩)) := by simp [World.cell?, h.head]
theorem RB.c1 (h : RB w bb m ub n U) : w.cell? ⟨bb, 1, none⟩ = some (.slice (some ⟨ub, 0, none⟩) n n) := by simp [World.cell?, h.head]
theorem RB.lt (h : RB w bb m ub n U) : bb < w.heap.size := (Array.getElem?_eq_some_iff.1 h.head).1
theorem RB.up {S : Nat → Prop} (h : RB w bb m ub n U) (u : Up S w w') (h1 : ¬ S bb) (h2 : ¬ S ub) : RB w' bb m ub n U := ⟨(u.block bb h.lt h1).trans h.head, h.row.up u h2, h.le⟩
theorem RB.nxt (h : RB w bb m ub n U) (u : Up Nul w w') : RB w' bb m ub n U := h.up u (fun h => h) fun h => h
theorem RB.ne (h : RB w bb m ub n U) : bb ≠ ub := ne_type h.head h.row.heap (by decide)
theorem RB.set (h : RB w bb m ub n U) {i : Nat} (hi : i < n) (b : Bool) : RB (w.setCell ⟨ub, i, none⟩ (.bool b)) bb m ub n (updB U i b) := by
  have u := (Up.refl (One ub) w).put rfl i (.bool b)
  exact ⟨(u.block bb h.lt fun e => h.ne e).trans h.head, h.row.set hi b, h.le⟩

/-! ### 'NewBay', 'Take', 'Set' -/
theorem rnewBay_any (r : RK) (w : World) (h : RD w r) :
    Calls Try.prog 20 #[.pointer (some ⟨r.m, 0, none⟩)] w fun e w' => ∃ bb ub, e = .returned (.pointer (some ⟨bb, 0, none⟩)) ∧ RB w' bb r.m ub r.n (fun _ => false) ∧ Up Nul w w' ∧ w.heap.size ≤ bb ∧ w.heap.size ≤ ub := by
  have c0 := h.c0
  have hle := h.le
  obtain ⟨n, N⟩ : ∃ n, Hid (r.n = n) := ⟨_, rfl⟩
  obtain ⟨m, M⟩ : ∃ m, Hid (r.m = m) := ⟨_, rfl⟩
  rw [N.out] at c0 hle ⊢
  rw [M.out] at c0 ⊢
  have hmk := make_bools w n (by omega)
  have HB := hid (BR.mk (w := w.alloc (.cells (bls n fun _ => false) 4)) (q := w.heap.size) (n := n) (U := fun _ => false) (heap_alloc_new _ _))
  have U1 := hid ((Up.refl Nul w).alloc (.cells (bls n fun _ => false) 4))
  have HS : Hid (w.heap.size < (w.alloc (.cells (bls n fun _ => false) 4)).heap.size) := by show _ < _; simp
  have HLE := hid hle
  generalize r.sa = sa at c0
  generalize r.sc = sc at c0
  obtain ⟨q, Q⟩ : ∃ q, Hid (w.heap.size = q) := ⟨_, rfl⟩
  rw [Q.out] at hmk HB HS ⊢
  generalize w.alloc (.cells (bls n fun _ => false) 4) = w1 at hmk HB U1 HS
  have HQ : Hid (q ≤ w1.heap.size) := Nat.le_of_lt HS.out
  clear h hle
  go_enter Try.func20, Try.ntmps20
  go_wp2
  go_ret
  exact ⟨_, q, rfl, ⟨heap_alloc_new _ _, HB.out.up ((Up.refl Nul w1).alloc _) (fun h => h), HLE.out⟩, U1.out.alloc _, HQ.out, Nat.le_refl _⟩
set_option maxHeartbeats 800000 in
theorem rtake_bay (w : World) (h : RB w bb m ub n U) :
    Calls Try.prog 22 #[.pointer (some ⟨bb, 0, none⟩)] w fun e w' =>
      (∃ i, fst0 U n 0 = some i ∧ i < n ∧ e = .returned (.tuple #[.int .i64 (i : Nat), .bool true]) ∧ RB w' bb m ub n (updB U i true) ∧ Up (One ub) w w') ∨
      (fst0 U n 0 = none ∧ e = .returned (.tuple #[.int .i64 0, .bool false]) ∧ w' = w) := by
  have H := hid h
  have c1 := h.c1
  clear h
  go_enter Try.func22, Try.ntmps22
  go_wp2
  go_loopw [4] (fun i wr => ∃ t k : Nat, t + k = n ∧ i = .int .i64 (t : Nat) ∧ fst0 U n 0 = fst0 U k t ∧ wr = w) (fun i _ => n - (intOf i).toNat)
  case atStart => exact ⟨0, n, Nat.zero_add n, rfl, rfl, rfl⟩
  case round =>
    obtain ⟨t, k, ht, rfl, hf, rfl⟩ := hrel
    have HF := hid hf
    have HL := hid H.out.le
    clear hf
    by_cases hlt : t < n
    · obtain ⟨k', rfl⟩ : ∃ k', k = k' + 1 := ⟨k - 1, by omega⟩
      have i0 : (0 : Int) ≤ (t : Int) := by omega
      have i1 : (t : Int) < (n : Int) := by omega
      have i2 : (t : Int) ≤ 64 := by have := HL.out; omega
      have cu := H.out.row.cell hlt
      have cf := H.out.row.froz t
      cases hu : U t with
      | true =>
        rw [hu] at cu
        have HN := hid (HF.out.trans (fst0_yes k' hu))
        clear hu
        go_wp2_with fail
        go_round
        case rel => exact ⟨t + 1, k', by omega, by go_num, HN.out, by first | rfl | trivial⟩
        case measure => simp [intOf]; omega
      | false =>
        rw [hu] at cu
        have HN := hid (HF.out.trans (fst0_no k' hu))
        have HS := hid (H.out.set hlt true)
        have UP := hid ((Up.refl (One ub) wr).put rfl t (.bool true))
        have HLT := hid hlt
        clear hu
        go_wp2
        go_ret2
        exact .inl ⟨t, HN.out, HLT.out, rfl, HS.out, UP.out⟩
    · obtain rfl : k = 0 := by omega
      have i1 : ¬ (t : Int) < (n : Int) := by omega
      clear hlt ht
      go_wp2
      go_ret2
      exact .inr ⟨HF.out, rfl, rfl⟩
theorem rset_bad (w : World) (h : RB w bb m ub n U) (x : Int) (b : Bool) (hx : x < 0 ∨ (n : Int) ≤ x ∨ U x.toNat = b) :
    Calls Try.prog 23 #[.pointer (some ⟨bb, 0, none⟩), .int .i64 x, .bool b] w fun e w' => e = .returned (.bool false) ∧ w' = w := by
  have c1 := h.c1
  by_cases h0 : x < 0
  · clear h hx
    go_enter Try.func23, Try.ntmps23
    go_wp2
    go_ret
    exact ⟨rfl, rfl⟩
  · by_cases h1 : (n : Int) ≤ x
    · clear h hx
      go_enter Try.func23, Try.ntmps23
      go_wp2
      go_ret
      exact ⟨rfl, rfl⟩
    · obtain ⟨s, rfl⟩ : ∃ s : Nat, x = s := ⟨x.toNat, by omega⟩
      have hs : s < n := by omega
      have hb : U s = b := by
        rcases hx with e | e | e
        · exact absurd e h0
        · exact absurd e h1
        · simpa using e
      have cu := h.row.cell hs
      rw [hb] at cu
      have i1 : (s : Int) < (n : Int) := by omega
      have hbb : (b == b) = true := by simp
      clear h hx hb h0 h1
      go_enter Try.func23, Try.ntmps23
      go_wp2
      go_ret
      exact ⟨rfl, rfl⟩
theorem rset_good (w : World) (h : RB w bb m ub n U) (s : Nat) (b : Bool) (hs : s < n) (hb : U s = !b) :
    Calls Try.prog 23 #[.pointer (some ⟨bb, 0, none⟩), .int .i64 s, .bool b] w fun e w' => e = .returned (.bool true) ∧ RB w' bb m ub n (updB U s b) ∧ Up (One ub) w w' := by
  have c1 := h.c1
  have cu := h.row.cell hs
  have cf := h.row.froz s
  rw [hb] at cu
  have HS := hid (h.set hs b)
  have UP := hid ((Up.refl (One ub) w).put rfl s (.bool b))
  have i1 : (s : Int) < (n : Int) := by omega
  clear h hb
  cases b
  all_goals
    go_enter Try.func23, Try.ntmps23
    go_wp2
    go_ret
    exact ⟨rfl, HS.out, UP.out⟩
end
end Go.Proofs.Ytfmgbmpdifjliaa
