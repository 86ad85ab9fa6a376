/- Part 5 of what the walks rest on: DiskAwake, DiskLaw, OwnV, BayBase, SameInts, BayFace, BayReal, BayReal2, BayReal3, Ints. -/
import Derived.Test.YtcejdobmgbielaaRB4
namespace Go.Proofs.Ytcejdobmgbielaa
open Go.RowKit
set_option linter.unusedVariables false

section
variable {w0 w : World} {b n : Nat} {fu k : Option Nat} {R : Nat → List Nat} {ps : List (Nat × List Nat)}
theorem readH_gone (h : H w0 w b n fu k false R ps) {s : Nat} (hs : s < n) :
    Calls Try.prog 57 #[.pointer (some ⟨b, 0, none⟩), .int .i64 s] w fun e w' => e = .returned (.tuple #[.slice none 0 0, .int .i64 5]) ∧ w' = w := by
  obtain ⟨d, h1, rfl, rfl, rfl, h5, rfl, h6, h7⟩ := h.ex
  exact read_gone d s w h1 hs h5
end
/-- New Fuse, as a law meets it. -/
theorem fuseH {w0 w : World} (h0 : Up Nul w0 w) (x : Int) (hk : x ≤ 9223372036854775807) :
    Calls Try.prog 22 #[.int .i64 x] w fun e w' => ∃ f, e = .returned (.pointer (some ⟨f, 0, none⟩)) ∧ FzO w' (some f) (ofk x) ∧ (∀ g, some f = some g → w0.heap.size ≤ g) ∧ Up Nul w w' := by
  refine (newFuse_any x w hk).mono ?_
  rintro e w' ⟨f, rfl, h1, h2, h3⟩
  exact ⟨f, rfl, h1, fun g hg => by injection hg with hg; have := h0.size; omega, h2⟩

theorem i64_mask (m : Nat) (hm : m < 63) (n : Int) : ∃ k : Nat, bits .and .i64 n ((2 ^ m - 1 : Nat) : Int) = (k : Int) ∧ k < 2 ^ m := by
  have hp : 2 ^ m ≤ 2 ^ 62 := Nat.pow_le_pow_right (by omega) (by omega)
  have key : (BitVec.ofInt 64 n &&& BitVec.ofInt 64 ((2 ^ m - 1 : Nat) : Int)).toNat = (n % ((2 ^ 64 : Nat) : Int)).toNat % 2 ^ m := by
    have e : (BitVec.ofInt 64 ((2 ^ m - 1 : Nat) : Int)).toNat = 2 ^ m - 1 := by
      rw [BitVec.toNat_ofInt]
      have : (((2 ^ m - 1 : Nat) : Int) % ((2 ^ 64 : Nat) : Int)) = ((2 ^ m - 1 : Nat) : Int) := Int.emod_eq_of_lt (by omega) (by omega)
      rw [this]
      omega
    rw [BitVec.toNat_and, BitVec.toNat_ofInt, e, Nat.and_two_pow_sub_one_eq_mod]
  refine ⟨(n % ((2 ^ 64 : Nat) : Int)).toNat % 2 ^ m, ?_, Nat.mod_lt _ (Nat.two_pow_pos m)⟩
  show IntKind.i64.wrap ((BitVec.ofInt 64 n &&& BitVec.ofInt 64 ((2 ^ m - 1 : Nat) : Int)).toNat : Nat) = _
  rw [key, IntKind.wrap_i64]
  have := Nat.mod_lt (n % ((2 ^ 64 : Nat) : Int)).toNat (Nat.two_pow_pos m)
  generalize (n % ((2 ^ 64 : Nat) : Int)).toNat % 2 ^ m = x at this ⊢
  omega
theorem i64_mask8 (n : Int) : ∃ k : Nat, bits .and .i64 n 255 = (k : Int) ∧ k < 256 := i64_mask 8 (by omega) n
theorem i64_mask3 (n : Int) : ∃ k : Nat, bits .and .i64 n 7 = (k : Int) ∧ k < 8 := i64_mask 3 (by omega) n
theorem i64_mask2 (n : Int) : ∃ k : Nat, bits .and .i64 n 3 = (k : Int) ∧ k < 4 := i64_mask 2 (by omega) n
theorem i64_mask5 (n : Int) : ∃ k : Nat, bits .and .i64 n 31 = (k : Int) ∧ k < 32 := i64_mask 5 (by omega) n
theorem rem_lit (a n : Nat) (hn : 0 < n) : ∃ b : Nat, (a : Int) % (n : Int) = (b : Int) ∧ b < n := ⟨a % n, by rw [Int.natCast_emod], Nat.mod_lt a hn⟩
theorem rem_nat (a n : Nat) : ∃ b : Nat, (a : Int) % ((n : Int) + 1) = (b : Int) ∧ b ≤ n := ⟨a % (n + 1), by rw [Int.natCast_emod]; rfl, by have := Nat.mod_lt a (show 0 < n + 1 by omega); omega⟩
theorem run_from (a : Option Addr) (n cap k : Nat) (hk : k ≤ n) (hn : n ≤ cap) (w : World) :
    (Instr.slice 47 (.slice a n cap) (some (.int .i64 k)) none none).run Try.prog w = .ok (.slice (atOff a k cap) (n - k) (cap - k)) w := by
  rw [run_slice_l (P := Try.prog) (w := w) 47 a n cap (by kernel_rfl) .i64 k (by omega) (by omega), size_byte]
  simp only [Result.andThen, sliced, Int.toNat_natCast, Nat.mul_one, atOff]
theorem newH_nil {w0 w : World} (h0 : Up Nul w0 w) (x : Int) (n : Nat) (hx : cnt x = n) :
    Calls Try.prog 28 #[.int .i64 x, .pointer none] w fun e w' => ∃ b, e = .returned (.pointer (some ⟨b, 0, none⟩)) ∧ H w0 w' b n none none true (fun _ => zer 96) [] ∧ Up Nul w0 w' := by
  refine (newH h0 x none none rfl (fun f h => by cases h) n hx).mono ?_
  rintro e w' ⟨b, rfl, h1, h2⟩
  exact ⟨b, rfl, h1, h0.trans h2⟩
theorem cutB {w : World} {q n k : Nat} {z : List Nat} (h : Blk w q z) (hn : z.length = n) (hk : k ≤ n) (hl : n ≤ 1000) (cap : Nat) : (convert 47 9 (.slice (some ⟨q, 0, none⟩) k cap)).run Try.prog w = .ok (.string (strOf (z.take k))) w :=
  SlN.conv (n := k) ⟨by rw [List.length_take]; omega, .inr ⟨q, 0, rfl, h.lt, by have := h.row 0 k (by omega); simpa using this⟩, by omega⟩ cap
theorem restB {w : World} {q n k : Nat} {z : List Nat} (h : Blk w q z) (hn : z.length = n) (hk : k ≤ n) (hl : n ≤ 1000) (c2 : Nat) : (convert 47 9 (.slice (atOff (some ⟨q, 0, none⟩) k n) (n - k) c2)).run Try.prog w = .ok (.string (strOf (z.drop k))) w := by
  refine SlN.conv (n := n - k) ⟨by rw [List.length_drop]; omega, ?_, by omega⟩ c2
  rcases Nat.lt_or_ge k n with e | e
  · refine .inr ⟨q, k, by rw [atOff, if_neg (by omega)]; show some (Addr.add _ _) = _; rw [add_off, Nat.zero_add], h.lt, ?_⟩
    have := h.row k (n - k) (by omega)
    rwa [List.take_of_length_le (by rw [List.length_drop]; omega)] at this
  · exact .inl (by omega)

/-- The slice v, of the call's own, holds the values xs, a cell each. -/
def OwnV (T : TypeId) (base : Nat) (w : World) (v : Value) (xs : List Value) : Prop := w.ownsRow base T 1 v xs.length xs
theorem OwnV.nil (T : TypeId) (base : Nat) (w : World) : OwnV T base w (.slice none 0 0) [] := World.ownsRow_nil _ _ _ _
theorem OwnV.alloc {T : TypeId} {base : Nat} {w : World} {v : Value} {xs : List Value} (h : OwnV T base w v xs) (o : Obj) : OwnV T base (w.alloc o) v xs := World.ownsRow.alloc h o
theorem OwnV.drewN {T : TypeId} {base : Nat} {w : World} {v : Value} {xs : List Value} (h : OwnV T base w v xs) (n : Nat) : OwnV T base (w.drewN n) v xs := h
theorem OwnV.up {T : TypeId} {S : Nat → Prop} {base : Nat} {w w' : World} {v : Value} {xs : List Value} (h : OwnV T base w v xs) (u : Up S w w') (hs : ∀ k, base ≤ k → k < w.heap.size → ¬ S k) : OwnV T base w' v xs := by
  refine ⟨h.1, ?_⟩
  rcases h.2 with hn | ⟨g, cap, cur, h1, h2, h3, h4⟩
  · exact .inl hn
  · have hl := (Array.getElem?_eq_some_iff.1 h3).1
    exact .inr ⟨g, cap, cur, h1, h2, (u.block g hl (hs g h2 hl)).trans h3, h4⟩
theorem OwnV.base {T : TypeId} {base : Nat} {w : World} {v : Value} {xs : List Value} (h : OwnV T base w v xs) : ∀ k, v.ownBlock = some k → base ≤ k := fun k hk => (World.ownsRow.lt h k hk).1
theorem OwnV.shape {T : TypeId} {base : Nat} {w : World} {v : Value} {xs : List Value} (h : OwnV T base w v xs) : ∃ a cap, v = .slice a xs.length cap := by
  rcases h.2 with ⟨e, e0⟩ | ⟨g, cap, cur, e, _⟩
  · exact ⟨none, 0, by rw [e, e0]⟩
  · exact ⟨_, _, e⟩
theorem OwnV.row {T : TypeId} {base : Nat} {w : World} {v : Value} {xs : List Value} (h : OwnV T base w v xs) (h0 : 0 < xs.length) :
    ∃ g cap, v = .slice (some ⟨g, 0, none⟩) xs.length cap ∧ base ≤ g ∧ g < w.heap.size ∧ (∀ i x, xs[i]? = some x → w.cell? ⟨g, i, none⟩ = some x) ∧ (∀ i, w.frozen? ⟨g, i, none⟩ = false) ∧ xs.length ≤ cap := by
  rcases h.2 with ⟨_, hn⟩ | ⟨g, cap, cur, h1, h2, h3, h4, h5, h6, h7⟩
  · omega
  · refine ⟨g, cap, h1, h2, (Array.getElem?_eq_some_iff.1 h3).1, fun i x hi => ?_, fun i => by simp [World.frozen?, h3], h4⟩
    have hl : i < xs.length := by
      rcases Nat.lt_or_ge i xs.length with h | h
      · exact h
      · rw [List.getElem?_eq_none h] at hi; cases hi
    have hc : cur[i]? = some x := by
      have e : (cur.toList.take (xs.length * 1))[i]? = some x := by rw [h7]; exact hi
      rw [List.getElem?_take, if_pos (by omega)] at e
      simpa using e
    simp only [World.cell?, h3]
    exact hc
/-- append(v, y...). -/
theorem wpList_append_vals {t T : TypeId} {zr : Value} {by_ : Nat} (ht : Try.prog.underlying t = some (.slice T)) (hinf : (Try.prog.info? T).map (fun i => (i.zero, i.size, i.bytes)) = some (some zr, 1, by_)) (hz1 : zr.cells.size = 1) (hby : by_ ≤ 24)
    {w : World} {ops : Array Oper} {rest : List Oper} {o : Oper} {a : Act} {Q : Exit → Act → World → Prop} (hgd : o.guard = none) (s x : Operand)
    (ho : o.op = .call { callee := .builtin .append, args := #[s, x], argTypes := #[t, t] }) (base : Nat) (v : Value) (xs : List Value) (hs : a.eval s = v) (hown : OwnV T base w v xs)
    (ad : Addr) (n cap : Nat) (ys : List Value) (hx : a.eval x = .slice (some ad) n cap) (hc : ∀ j u, ys[j]? = some u → w.cell? (ad.add j) = some u) (h1 : ∀ u ∈ ys, u.oneCell' = true) (hy : ys.length = n) (hl : xs.length + n ≤ 1000000) (hbase : base ≤ w.heap.size)
    (h : ∀ v' w', Hid (OwnV T base w' v' (xs ++ ys)) → Hid (w.grownBy w' v.ownBlock) → wpList Try.prog ops Q rest (a.put o.dst v') w') : wpList Try.prog ops Q (o :: rest) a w := by
  obtain ⟨i0, hi, hz0, hz2, hz3⟩ := info_parts hinf
  refine wpList_append_own w hgd s x t ho base T i0 zr 1 by_ ht hi hz0 hz2 hz3 hz1 (by decide) v xs.length xs hs hown ad n cap ys hx (by rw [hy, Nat.mul_one]) hc h1 (by unfold maxLen; omega) ?_ hbase fun v' w' g1 g2 _ => h v' w' ?_ g2
  · have := Nat.mul_le_mul (show xs.length + n ≤ 1000000 from hl) hby
    omega
  · show w'.ownsRow base T 1 v' (xs ++ ys).length (xs ++ ys)
    rw [List.length_append, hy]
    exact g1
theorem info_int : (Try.prog.info? 3).map (fun i => (i.zero, i.size, i.bytes)) = some (some (.int .i64 0), 1, 8) := by kernel_rfl
/-- append(v, one int). -/
theorem wpList_append_int {w : World} {ops : Array Oper} {rest : List Oper} {o : Oper} {a : Act} {Q : Exit → Act → World → Prop} (hgd : o.guard = none) (s x : Operand)
    (ho : o.op = .call { callee := .builtin .append, args := #[s, x], argTypes := #[22, 22] }) (base : Nat) (v : Value) (xs : List Value) (hs : a.eval s = v) (hown : OwnV 3 base w v xs)
    (ad : Addr) (cap : Nat) (y : Int) (hx : a.eval x = .slice (some ad) 1 cap) (hc : w.cell? ad = some (.int .i64 y)) (hl : xs.length + 1 ≤ 1000000) (hbase : base ≤ w.heap.size)
    (h : ∀ v' w', Hid (OwnV 3 base w' v' (xs ++ [.int .i64 y])) → Hid (w.grownBy w' v.ownBlock) → wpList Try.prog ops Q rest (a.put o.dst v') w') : wpList Try.prog ops Q (o :: rest) a w :=
  wpList_append_vals Try.underlying22 info_int rfl (by omega) hgd s x ho base v xs hs hown ad 1 cap [.int .i64 y] hx (fun j u hj => by
    match j, hj with
    | 0, hj => simp at hj; subst hj; simpa [Addr.add] using hc) (fun u hu => by simp at hu; subst hu; rfl) rfl hl hbase h

/-- A row of Booleans, as cells. -/
def bls (n : Nat) (U : Nat → Bool) : Array Value := ((List.range n).map fun i => Value.bool (U i)).toArray
theorem bls_at {n i : Nat} (U : Nat → Bool) (h : i < n) : (bls n U)[i]? = some (.bool (U i)) := by simp [bls, h]
def updB (U : Nat → Bool) (i : Nat) (b : Bool) (j : Nat) : Bool := if j = i then b else U j
theorem bls_set {n i : Nat} (U : Nat → Bool) (b : Bool) (h : i < n) : (bls n U).setIfInBounds i (.bool b) = bls n (updB U i b) := by
  apply Array.ext
  · simp [bls]
  · intro k h1 h2
    have hk : k < n := by simpa [bls] using h2
    rw [Array.getElem_setIfInBounds (by simpa [bls] using hk)]
    by_cases e : i = k
    · subst e; simp [bls, updB]
    · have e2 : ¬ k = i := fun h => e h.symm
      simp [bls, updB, e, e2]
/-- A row of Booleans in a block of its own. -/
structure BR (w : World) (q n : Nat) (U : Nat → Bool) : Prop where
  heap : w.heap[q]? = some (.cells (bls n U) 4 (0, 0))
section
variable {w : World} {q n : Nat} {U : Nat → Bool}
theorem BR.lt (h : BR w q n U) : q < w.heap.size := (Array.getElem?_eq_some_iff.1 h.heap).1
theorem BR.cell (h : BR w q n U) {i : Nat} (hi : i < n) : w.cell? ⟨q, i, none⟩ = some (.bool (U i)) := by
  simp only [World.cell?, h.heap]
  exact bls_at U hi
theorem BR.froz (h : BR w q n U) (i : Nat) : w.frozen? ⟨q, i, none⟩ = false := by simp [World.frozen?, h.heap]
end
section
variable {w w' : World} {q n : Nat} {U : Nat → Bool}
theorem BR.up {S : Nat → Prop} (h : BR w q n U) (u : Up S w w') (hs : ¬ S q) : BR w' q n U := ⟨(u.block q h.lt hs).trans h.heap⟩
end
section
variable {w : World} {q n : Nat} {U : Nat → Bool}
theorem BR.set (h : BR w q n U) {i : Nat} (hi : i < n) (b : Bool) : BR (w.setCell ⟨q, i, none⟩ (.bool b)) q n (updB U i b) :=
  ⟨by rw [heap_setCell_same w q i _ _ _ h.heap, bls_set U b hi]⟩
end
theorem made_bls (n : Nat) : madeCells (Value.bool false).cells (n * 1) = bls n fun _ => false := by
  apply Array.ext
  · simp [bls, size_madeCells, Value.cells]
  · intro i h1 h2
    have h0 : i % 1 = 0 := Nat.mod_one i
    simp [bls, madeCells, Value.cells, h0]
theorem info_bool : (Try.prog.info? 4).map (fun i => (i.zero, i.size, i.bytes)) = some (some (.bool false), 1, 1) := by kernel_rfl
/-- make([]bool, n). -/
theorem make_bools (w : World) (n : Nat) (hn : n ≤ 140737488355328) :
    (Instr.makeSlice 73 (.int .i64 n) (.int .i64 n)).run Try.prog w = .ok (.slice (some ⟨w.heap.size, 0, none⟩) n n) (w.alloc (.cells (bls n fun _ => false) 4)) := by
  obtain ⟨i0, hi, hz0, hz1, hz2⟩ := info_parts info_bool
  have := run_make (P := Try.prog) (w := w) 73 4 i0 (.bool false) Try.underlying73 hi hz0 .i64 .i64 n n (by omega) (Int.le_refl _) (by rw [hz2]; omega) (by omega)
  rw [this, hz1, Int.toNat_natCast, made_bls]
/-- Which is the first that is not used; which are. -/
def fst0 (U : Nat → Bool) : Nat → Nat → Option Nat
  | 0, _ => none
  | k + 1, i => if U i then fst0 U k (i + 1) else some i
def us (U : Nat → Bool) : Nat → List Nat
  | 0 => []
  | k + 1 => if U k then us U k ++ [k] else us U k
def usV (U : Nat → Bool) (k : Nat) : List Value := (us U k).map fun i => Value.int .i64 (i : Nat)
theorem us_length (U : Nat → Bool) (k : Nat) : (us U k).length ≤ k := by
  induction k with
  | zero => exact Nat.le_refl _
  | succ k ih =>
    rw [us]
    split
    · rw [List.length_append]; exact Nat.succ_le_succ ih
    · omega
theorem us_yes {U : Nat → Bool} {k : Nat} (h : U k = true) : us U (k + 1) = us U k ++ [k] := by rw [us, if_pos h]
theorem us_no {U : Nat → Bool} {k : Nat} (h : U k = false) : us U (k + 1) = us U k := by rw [us, if_neg (by rw [h]; decide)]
theorem usV_yes {U : Nat → Bool} {k : Nat} (h : U k = true) : usV U (k + 1) = usV U k ++ [.int .i64 (k : Nat)] := by rw [usV, us_yes h, List.map_append]; rfl
theorem usV_no {U : Nat → Bool} {k : Nat} (h : U k = false) : usV U (k + 1) = usV U k := by rw [usV, us_no h, usV]
theorem usV_length (U : Nat → Bool) (k : Nat) : (usV U k).length = (us U k).length := by simp [usV]
theorem fst0_yes {U : Nat → Bool} {i : Nat} (k : Nat) (h : U i = true) : fst0 U (k + 1) i = fst0 U k (i + 1) := by rw [fst0, if_pos h]
theorem fst0_no {U : Nat → Bool} {i : Nat} (k : Nat) (h : U i = false) : fst0 U (k + 1) i = some i := by rw [fst0, if_neg (by rw [h]; decide)]

theorem usV_at {U : Nat → Bool} {n i : Nat} (h : i < (us U n).length) : (usV U n)[i]? = some (.int .i64 ((us U n).getD i 0 : Nat)) := by
  simp [usV, List.getD_eq_getElem?_getD, List.getElem?_eq_getElem h]
theorem sameInts_yes (b1 b2 : Nat) (U : Nat → Bool) (n : Nat) (v1 v2 : Value) (w : World) (hn : n ≤ 64) (h1 : OwnV 3 b1 w v1 (usV U n)) (h2 : OwnV 3 b2 w v2 (usV U n)) :
    Calls Try.prog 39 #[v1, v2] w fun e w' => e = .returned (.bool true) ∧ Up Nul w w' := by
  obtain ⟨a1, c1, rfl⟩ := h1.shape
  obtain ⟨a2, c2, rfl⟩ := h2.shape
  obtain ⟨L, LL⟩ : ∃ L, Hid ((usV U n).length = L) := ⟨_, rfl⟩
  have HL : Hid (L ≤ 64) := by show _ ≤ _; rw [← LL.out, usV_length]; have := us_length U n; omega
  have HC : Hid (∀ i, i < L → ∃ g1 g2 x, a1 = some ⟨g1, 0, none⟩ ∧ a2 = some ⟨g2, 0, none⟩ ∧ ∀ W, Up Nul w W → W.cell? ⟨g1, i, none⟩ = some (.int .i64 x) ∧ W.cell? ⟨g2, i, none⟩ = some (.int .i64 x)) := fun i hi => by
    have hi2 : i < (usV U n).length := by rw [LL.out]; exact hi
    obtain ⟨g1, k1, e1, _, l1, r1, _⟩ := h1.row (by omega)
    obtain ⟨g2, k2, e2, _, l2, r2, _⟩ := h2.row (by omega)
    injection e1 with e1
    injection e2 with e2
    have hx := usV_at (U := U) (n := n) (i := i) (by rw [← usV_length]; exact hi2)
    exact ⟨g1, g2, _, e1, e2, fun W u => ⟨(u.cell (p := ⟨g1, i, none⟩) l1 id).trans (r1 i _ hx), (u.cell (p := ⟨g2, i, none⟩) l2 id).trans (r2 i _ hx)⟩⟩
  rw [LL.out]
  clear h1 h2 hn
  have hll : ((L : Int) == (L : Int)) = true := by simp
  go_enter Try.func39, Try.ntmps39
  go_wp2_with fail
  go_loopw [5] (fun i wr => ∃ t : Nat, t ≤ L ∧ i = .int .i64 (t : Nat) ∧ Up Nul w wr) (fun i _ => L - (intOf i).toNat)
  case atStart => exact ⟨0, Nat.zero_le _, rfl, Up.refl _ _⟩
  case round =>
    obtain ⟨t, ht, rfl, hu⟩ := hrel
    have HU := hid hu
    clear hu
    have i0 : (0 : Int) ≤ (t : Int) := by omega
    have i2 : (t : Int) ≤ 64 := by have := HL.out; omega
    by_cases hlt : t < L
    · have i1 : (t : Int) < (L : Int) := by omega
      obtain ⟨g1, g2, x, rfl, rfl, hc⟩ := HC.out t hlt
      obtain ⟨k1, k2⟩ := hc _ HU.out
      have HT := hid hlt
      clear hc hlt ht
      have hxx : (x == x) = true := by simp
      go_wp2_with fail
      go_quiet (fail)
      have UQ : Hid (Up Nul w (wr.drewN nq)) := HU.out.drewN nq
      generalize wr.drewN nq = w2 at UQ ⊢
      go_wp2_with fail
      go_roundw
      case rel => exact ⟨t + 1, HT.out, by go_num, UQ.out⟩
      case measure => have := HT.out; simp [intOf]; omega
    · obtain rfl : t = L := by omega
      go_wp2_with fail
      go_ret
      exact ⟨rfl, HU.out⟩

/-- A call that changes what is used. -/
def Did (PB : World → Nat → Nat → Nat → (Nat → Bool) → (Nat → Prop) → Prop) (w : World) (q b n : Nat) (U' : Nat → Bool) (F : Nat → Prop) (w' : World) : Prop :=
  ∃ F', PB w' q b n U' F' ∧ Up F w w' ∧ ∀ g, F' g → F g ∨ w.heap.size ≤ g

structure PBr (w : World) (q b ub n : Nat) (U : Nat → Bool) : Prop where
  head : w.heap[q]? = some (.cells #[.pointer (some ⟨b, 0, none⟩), .slice (some ⟨ub, 0, none⟩) n n] 75 (0, 0))
  row : BR w ub n U
def PBs (w : World) (q b n : Nat) (U : Nat → Bool) (F : Nat → Prop) : Prop := ∃ ub, PBr w q b ub n U ∧ ∀ g, F g ↔ g = q ∨ g = ub
section
variable {w : World} {q b ub n : Nat} {U : Nat → Bool}
theorem PBr.c0 (h : PBr w q b ub n U) : w.cell? ⟨q, 0, none⟩ = some (.pointer (some ⟨b, 0, none⟩)) := by simp [World.cell?, h.head]
theorem PBr.c1 (h : PBr w q b ub n U) : w.cell? ⟨q, 1, none⟩ = some (.slice (some ⟨ub, 0, none⟩) n n) := by simp [World.cell?, h.head]
theorem PBr.lt (h : PBr w q b ub n U) : q < w.heap.size := (Array.getElem?_eq_some_iff.1 h.head).1
end
section
variable {w w' : World} {q b ub n : Nat} {U : Nat → Bool}
theorem PBr.up {S : Nat → Prop} (h : PBr w q b ub n U) (u : Up S w w') (h1 : ¬ S q) (h2 : ¬ S ub) : PBr w' q b ub n U := ⟨(u.block q h.lt h1).trans h.head, h.row.up u h2⟩
theorem PBr.nxt (h : PBr w q b ub n U) (u : Up Nul w w') : PBr w' q b ub n U := h.up u (fun h => h) fun h => h
end
section
variable {w : World} {q b ub n : Nat} {U : Nat → Bool}
theorem PBr.ne (h : PBr w q b ub n U) : q ≠ ub := ne_type h.head h.row.heap (by decide)
theorem PBr.set (h : PBr w q b ub n U) {i : Nat} (hi : i < n) (x : Bool) : PBr (w.setCell ⟨ub, i, none⟩ (.bool x)) q b ub n (updB U i x) := by
  have u := (Up.refl (One ub) w).put rfl i (.bool x)
  exact ⟨(u.block q h.lt fun e => h.ne e).trans h.head, h.row.set hi x⟩
end
section
variable {w : World} {q b ub n : Nat} {U : Nat → Bool} {F : Nat → Prop}
theorem PBs.lt (h : PBs w q b n U F) (g : Nat) (hg : F g) : g < w.heap.size := by
  obtain ⟨ub, h1, h2⟩ := h
  rcases (h2 g).1 hg with rfl | rfl
  · exact h1.lt
  · exact h1.row.lt
end
section
variable {w w' : World} {q b ub n : Nat} {U : Nat → Bool} {F : Nat → Prop}
theorem PBs.keep (h : PBs w q b n U F) (k : ∀ g, F g → w'.heap[g]? = w.heap[g]?) : PBs w' q b n U F := by
  obtain ⟨ub, h1, h2⟩ := h
  exact ⟨ub, ⟨(k q ((h2 q).2 (.inl rfl))).trans h1.head, ⟨(k ub ((h2 ub).2 (.inr rfl))).trans h1.row.heap⟩⟩, h2⟩
end
section
variable {w w' : World} {q b ub n : Nat} {F : Nat → Prop}
theorem PBs.did {U' : Nat → Bool} (h2 : ∀ g, F g ↔ g = q ∨ g = ub) (h : PBr w' q b ub n U') (u : Up (One ub) w w') : Did PBs w q b n U' F w' :=
  ⟨F, ⟨ub, h, h2⟩, u.mono fun x _ hx => (h2 x).2 (.inr hx), fun g hg => .inl hg⟩
end
section
variable {w w' : World} {q b ub n : Nat} {U : Nat → Bool} {F : Nat → Prop}
theorem pnew_of (h : Calls Try.prog 46 #[.pointer (some ⟨b, 0, none⟩)] w fun e w' => e = .returned (.int .i64 (n : Nat)) ∧ w' = w) (hn : n ≤ 64) :
    Calls Try.prog 27 #[.pointer (some ⟨b, 0, none⟩)] w fun e w' => ∃ q F, e = .returned (.pointer (some ⟨q, 0, none⟩)) ∧ PBs w' q b n (fun _ => false) F ∧ Up Nul w w' ∧ ∀ g, F g → w.heap.size ≤ g := by
  have HSL := hid h
  have hmk := make_bools w n (by omega)
  have HB := hid (BR.mk (w := w.alloc (.cells (bls n fun _ => false) 4)) (q := w.heap.size) (n := n) (U := fun _ => false) (heap_alloc_new _ _))
  have U1 := hid ((Up.refl Nul w).alloc (.cells (bls n fun _ => false) 4))
  have HS : Hid (w.heap.size < (w.alloc (.cells (bls n fun _ => false) 4)).heap.size) := by show _ < _; simp
  obtain ⟨ub, Q⟩ : ∃ q, Hid (w.heap.size = q) := ⟨_, rfl⟩
  rw [Q.out] at hmk HB HS ⊢
  generalize w.alloc (.cells (bls n fun _ => false) 4) = w1 at hmk HB U1 HS
  have HQ : Hid (ub ≤ w1.heap.size) := Nat.le_of_lt HS.out
  clear h hn
  go_enter Try.func27, Try.ntmps27
  go_wp2_with fail
  refine HSL.out.mono ?_
  rintro e w2 ⟨rfl, rfl⟩
  go_wp2
  go_ret
  exact ⟨_, fun g => g = w1.heap.size ∨ g = ub, rfl, ⟨ub, ⟨heap_alloc_new _ _, HB.out.up ((Up.refl Nul w1).alloc _) (fun h => h)⟩, fun _ => Iff.rfl⟩, U1.out.alloc _, fun g hg => by
    rcases hg with rfl | rfl
    · exact HQ.out
    · exact Nat.le_refl _⟩
end
section
variable {w w' : World} {q b n : Nat} {F : Nat → Prop}
theorem pnew_any {w0 : World} {fu : Option Nat} {k : Option Nat} {live : Bool} {R : Nat → List Nat} {ps : List (Nat × List Nat)} (h : H w0 w b n fu k live R ps) (hn : n ≤ 64) :
    Calls Try.prog 27 #[.pointer (some ⟨b, 0, none⟩)] w fun e w' => ∃ q F, e = .returned (.pointer (some ⟨q, 0, none⟩)) ∧ PBs w' q b n (fun _ => false) F ∧ Up Nul w w' ∧ ∀ g, F g → w.heap.size ≤ g := pnew_of (slotsH h) hn
end
section
variable {w w' : World} {q b ub n : Nat} {U : Nat → Bool} {F : Nat → Prop}
theorem pdisk_any (h : PBs w q b n U F) : Calls Try.prog 19 #[.pointer (some ⟨q, 0, none⟩)] w fun e w' => e = .returned (.pointer (some ⟨b, 0, none⟩)) ∧ Up Nul w w' := by
  obtain ⟨ub, h1, _⟩ := h
  have c0 := h1.c0
  clear h1
  go_enter Try.func19, Try.ntmps19
  go_wp2
  go_ret
  exact ⟨rfl, Up.refl _ _⟩
end
section
variable {w w' : World} {q b ub n : Nat} {U : Nat → Bool}
theorem plack_yes (h : PBr w q b ub n U) (x : Int) (hx : x < 0 ∨ (n : Int) ≤ x) :
    Calls Try.prog 54 #[.pointer (some ⟨q, 0, none⟩), .int .i64 x] w fun e w' => e = .returned (.bool true) ∧ w' = w := by
  have c1 := h.c1
  by_cases h0 : x < 0
  · clear h hx
    go_enter Try.func54, Try.ntmps54
    go_wp2
    go_ret
    exact ⟨rfl, rfl⟩
  · have h1 : (n : Int) ≤ x := by omega
    clear h hx
    go_enter Try.func54, Try.ntmps54
    go_wp2
    go_ret
    exact ⟨by simp, rfl⟩
theorem plack_no (h : PBr w q b ub n U) (s : Nat) (hs : s < n) :
    Calls Try.prog 54 #[.pointer (some ⟨q, 0, none⟩), .int .i64 s] w fun e w' => e = .returned (.bool false) ∧ w' = w := by
  have c1 := h.c1
  have i1 : ¬ (n : Int) ≤ (s : Int) := by omega
  clear h
  go_enter Try.func54, Try.ntmps54
  go_wp2
  go_ret
  exact ⟨by simp, rfl⟩
theorem pset_bad (h : PBr w q b ub n U) (x : Int) (y : Bool) (hx : x < 0 ∨ (n : Int) ≤ x ∨ U x.toNat = y) :
    Calls Try.prog 53 #[.pointer (some ⟨q, 0, none⟩), .int .i64 x, .bool y] w fun e w' => e = .returned (.bool false) ∧ Up Nul w w' := by
  by_cases h0 : x < 0 ∨ (n : Int) ≤ x
  · have HL := hid (plack_yes h x h0)
    clear h hx h0
    go_enter Try.func53, Try.ntmps53
    go_wp2_with fail
    refine HL.out.mono ?_
    rintro e w1 ⟨rfl, rfl⟩
    go_wp2
    go_ret
    exact ⟨rfl, Up.refl _ _⟩
  · obtain ⟨s, rfl⟩ : ∃ s : Nat, x = s := ⟨x.toNat, by omega⟩
    have hs : s < n := by omega
    have hb : U s = y := by
      rcases hx with e | e | e
      · exact absurd (.inl e) h0
      · exact absurd (.inr e) h0
      · simpa using e
    have cu := h.row.cell hs
    have c1 := h.c1
    rw [hb] at cu
    have i1 : (s : Int) < (n : Int) := by omega
    have hbb : (y == y) = true := by simp
    have HL := hid (plack_no h s hs)
    clear h hx hb h0
    go_enter Try.func53, Try.ntmps53
    go_wp2_with fail
    refine HL.out.mono ?_
    rintro e w1 ⟨rfl, rfl⟩
    go_wp2
    go_ret
    exact ⟨rfl, Up.refl _ _⟩
theorem pset_good (h : PBr w q b ub n U) (s : Nat) (y : Bool) (hs : s < n) (hb : U s = !y) :
    Calls Try.prog 53 #[.pointer (some ⟨q, 0, none⟩), .int .i64 s, .bool y] w fun e w' => e = .returned (.bool true) ∧ PBr w' q b ub n (updB U s y) ∧ Up (One ub) w w' := by
  have c1 := h.c1
  have cu := h.row.cell hs
  have cf := h.row.froz s
  rw [hb] at cu
  have HS := hid (h.set hs y)
  have UP := hid ((Up.refl (One ub) w).put rfl s (.bool y))
  have i1 : (s : Int) < (n : Int) := by omega
  have HL := hid (plack_no h s hs)
  clear h hb
  cases y
  all_goals
    go_enter Try.func53, Try.ntmps53
    go_wp2_with fail
    refine HL.out.mono ?_
    rintro e w1 ⟨rfl, rfl⟩
    go_wp2
    go_ret
    exact ⟨rfl, HS.out, UP.out⟩
end
section
variable {w w' : World} {q b ub n : Nat} {U : Nat → Bool} {F : Nat → Prop}
theorem phold_any (h : PBs w q b n U F) (x : Int) : Calls Try.prog 38 #[.pointer (some ⟨q, 0, none⟩), .int .i64 x] w fun e w' =>
    ((0 ≤ x ∧ x < (n : Int) ∧ U x.toNat = false) ∧ e = .returned (.bool true) ∧ Did PBs w q b n (updB U x.toNat true) F w') ∨
    (¬ (0 ≤ x ∧ x < (n : Int) ∧ U x.toNat = false) ∧ e = .returned (.bool false) ∧ Up Nul w w') := by
  obtain ⟨ub, h1, h2⟩ := h
  have H1 := hid h1
  have H2 := hid h2
  clear h1 h2
  by_cases hc : 0 ≤ x ∧ x < (n : Int) ∧ U x.toNat = false
  · obtain ⟨s, rfl⟩ : ∃ s : Nat, x = s := ⟨x.toNat, by omega⟩
    have HC := hid hc
    clear hc
    go_enter Try.func38, Try.ntmps38
    go_wp2_with fail
    refine (pset_good H1.out s true (by have := HC.out.2.1; omega) (by have := HC.out.2.2; simpa using this)).mono ?_
    rintro e w1 ⟨rfl, p, u⟩
    have HP := hid (And.intro p u)
    clear p u
    go_wp2
    go_ret
    exact .inl ⟨HC.out, rfl, PBs.did H2.out (by rw [Int.toNat_natCast]; exact HP.out.1) HP.out.2⟩
  · have HC := hid hc
    clear hc
    go_enter Try.func38, Try.ntmps38
    go_wp2_with fail
    refine (pset_bad H1.out x true (by
      have := HC.out
      by_cases a : x < 0
      · exact .inl a
      · by_cases b : (n : Int) ≤ x
        · exact .inr (.inl b)
        · refine .inr (.inr ?_)
          cases e : U x.toNat
          · exact absurd ⟨by omega, by omega, e⟩ this
          · rfl)).mono ?_
    rintro e w1 ⟨rfl, u⟩
    have HP := hid u
    clear u
    go_wp2
    go_ret
    exact .inr ⟨HC.out, rfl, HP.out⟩
theorem pgive_any (h : PBs w q b n U F) (x : Int) : Calls Try.prog 37 #[.pointer (some ⟨q, 0, none⟩), .int .i64 x] w fun e w' =>
    ((0 ≤ x ∧ x < (n : Int) ∧ U x.toNat = true) ∧ e = .returned (.bool true) ∧ Did PBs w q b n (updB U x.toNat false) F w') ∨
    (¬ (0 ≤ x ∧ x < (n : Int) ∧ U x.toNat = true) ∧ e = .returned (.bool false) ∧ Up Nul w w') := by
  obtain ⟨ub, h1, h2⟩ := h
  have H1 := hid h1
  have H2 := hid h2
  clear h1 h2
  by_cases hc : 0 ≤ x ∧ x < (n : Int) ∧ U x.toNat = true
  · obtain ⟨s, rfl⟩ : ∃ s : Nat, x = s := ⟨x.toNat, by omega⟩
    have HC := hid hc
    clear hc
    go_enter Try.func37, Try.ntmps37
    go_wp2_with fail
    refine (pset_good H1.out s false (by have := HC.out.2.1; omega) (by have := HC.out.2.2; simpa using this)).mono ?_
    rintro e w1 ⟨rfl, p, u⟩
    have HP := hid (And.intro p u)
    clear p u
    go_wp2
    go_ret
    exact .inl ⟨HC.out, rfl, PBs.did H2.out (by rw [Int.toNat_natCast]; exact HP.out.1) HP.out.2⟩
  · have HC := hid hc
    clear hc
    go_enter Try.func37, Try.ntmps37
    go_wp2_with fail
    refine (pset_bad H1.out x false (by
      have := HC.out
      by_cases a : x < 0
      · exact .inl a
      · by_cases b : (n : Int) ≤ x
        · exact .inr (.inl b)
        · refine .inr (.inr ?_)
          cases e : U x.toNat
          · rfl
          · exact absurd ⟨by omega, by omega, e⟩ this)).mono ?_
    rintro e w1 ⟨rfl, u⟩
    have HP := hid u
    clear u
    go_wp2
    go_ret
    exact .inr ⟨HC.out, rfl, HP.out⟩
end
section
variable {w w' : World} {q b ub n : Nat} {U : Nat → Bool}
theorem pindex_any (h : PBr w q b ub n U) (hn : n ≤ 64) : Calls Try.prog 52 #[.slice (some ⟨ub, 0, none⟩) n n, .bool false] w fun e w' =>
    ((∃ i : Nat, fst0 U n 0 = some i ∧ i < n ∧ U i = false ∧ e = .returned (.int .i64 i)) ∨ (fst0 U n 0 = none ∧ e = .returned (.int .i64 (-1)))) ∧ w' = w := by
  have H := hid h
  have HLE := hid hn
  clear h hn
  go_enter Try.func52, Try.ntmps52
  go_wp2_with fail
  go_loopw [8] (fun i wr => ∃ t k : Nat, t + k = n ∧ i = .int .i64 (t : Nat) ∧ fst0 U n 0 = fst0 U k t ∧ wr = w) (fun i _ => n - (intOf i).toNat)
  case atStart => exact ⟨0, n, Nat.zero_add n, rfl, rfl, rfl⟩
  case round =>
    obtain ⟨t, k, ht, rfl, hf, rfl⟩ := hrel
    have HF := hid hf
    clear hf
    by_cases hlt : t < n
    · obtain ⟨k', rfl⟩ : ∃ k', k = k' + 1 := ⟨k - 1, by omega⟩
      have i0 : (0 : Int) ≤ (t : Int) := by omega
      have i1 : (t : Int) < (n : Int) := by omega
      have i2 : (t : Int) ≤ 64 := by have := HLE.out; omega
      have cu := H.out.row.cell hlt
      cases hu : U t with
      | true =>
        rw [hu] at cu
        have HN := hid (HF.out.trans (fst0_yes k' hu))
        clear hu
        go_wp2_with fail
        go_round
        case rel => exact ⟨t + 1, k', by omega, by go_num, HN.out, by first | rfl | trivial⟩
        case measure => simp [intOf]; omega
      | false =>
        rw [hu] at cu
        have HN := hid (HF.out.trans (fst0_no k' hu))
        have HT := hid (And.intro hlt hu)
        clear hu
        go_wp2
        go_ret
        exact ⟨.inl ⟨t, HN.out, HT.out.1, HT.out.2, rfl⟩, rfl⟩
    · obtain rfl : k = 0 := by omega
      have i1 : ¬ (t : Int) < (n : Int) := by omega
      clear hlt ht
      go_wp2
      go_ret
      exact ⟨.inr ⟨HF.out, rfl⟩, rfl⟩
end
section
variable {w w' : World} {q b ub n : Nat} {U : Nat → Bool} {F : Nat → Prop}
theorem ptake_any (h : PBs w q b n U F) (hn : n ≤ 64) : Calls Try.prog 35 #[.pointer (some ⟨q, 0, none⟩)] w fun e w' =>
    (∃ i, fst0 U n 0 = some i ∧ e = .returned (.tuple #[.int .i64 (i : Nat), .bool true]) ∧ Did PBs w q b n (updB U i true) F w') ∨
    (fst0 U n 0 = none ∧ e = .returned (.tuple #[.int .i64 0, .bool false]) ∧ Up Nul w w') := by
  obtain ⟨ub, h1, h2⟩ := h
  have H := hid h1
  have H2 := hid h2
  have HI := hid (pindex_any h1 hn)
  have c1 := h1.c1
  clear h1 h2 hn
  go_enter Try.func35, Try.ntmps35
  go_wp2_with fail
  refine HI.out.mono ?_
  rintro e w1 ⟨⟨i, hf, hi, hu, rfl⟩ | ⟨hf, rfl⟩, rfl⟩
  · have HF := hid hf
    have HT := hid (pset_good H.out i true hi (by simpa using hu))
    clear hf hi hu
    go_wp2_with fail
    refine HT.out.mono ?_
    rintro e w2 ⟨rfl, p, u⟩
    have HP := hid (And.intro p u)
    clear p u
    go_wp2
    go_ret2
    exact .inl ⟨i, HF.out, rfl, PBs.did H2.out HP.out.1 HP.out.2⟩
  · have HF := hid hf
    have HT := hid (pset_bad H.out (-1) true (.inl (by omega)))
    clear hf
    go_wp2_with fail
    refine HT.out.mono ?_
    rintro e w2 ⟨rfl, u⟩
    have HP := hid u
    clear u
    go_wp2
    go_ret2
    exact .inr ⟨HF.out, rfl, HP.out⟩
set_option maxHeartbeats 800000 in
theorem pused_any (h : PBs w q b n U F) (hn : n ≤ 64) : Calls Try.prog 14 #[.pointer (some ⟨q, 0, none⟩)] w fun e w' => ∃ v, e = .returned v ∧ OwnV 3 w.heap.size w' v (usV U n) ∧ Up Nul w w' := by
  obtain ⟨ub, h1, _⟩ := h
  have H := hid h1
  have HLE := hid hn
  have c1 := h1.c1
  clear h1 hn
  go_enter Try.func14, Try.ntmps14
  go_wp2_with fail
  clear c1
  go_loopw [3, 11] (fun v i wr => ∃ t : Nat, t ≤ n ∧ i = .int .i64 (t : Nat) ∧ OwnV 3 w.heap.size wr v (usV U t) ∧ Up Nul w wr) (fun _ i _ => n - (intOf i).toNat)
  case atStart => exact ⟨0, Nat.zero_le _, rfl, OwnV.nil _ _ _, Up.refl _ _⟩
  case round =>
    obtain ⟨t, ht, rfl, ho, hu⟩ := hrel
    have HO := hid ho
    have HU := hid hu
    clear ho hu
    have i0 : (0 : Int) ≤ (t : Int) := by omega
    have i2 : (t : Int) ≤ 64 := by have := HLE.out; omega
    obtain ⟨va, vc, rfl⟩ := HO.out.shape
    by_cases hlt : t < n
    · have i1 : (t : Int) < (n : Int) := by omega
      have cu := (H.out.nxt HU.out).row.cell hlt
      cases hub : U t with
      | false =>
        rw [hub] at cu
        have HN : Hid (OwnV 3 w.heap.size wr (.slice va (usV U t).length vc) (usV U (t + 1))) := by show OwnV _ _ _ _ _; rw [usV_no hub]; exact HO.out
        have HT := hid hlt
        clear hub hlt ht
        generalize (usV U t).length = L at HO HN ⊢
        go_wp2_with fail
        go_roundw
        case rel => exact ⟨t + 1, HT.out, by go_num, HN.out, HU.out⟩
        case measure => have := HT.out; simp [intOf]; omega
      | true =>
        rw [hub] at cu
        have HY := hid (usV_yes hub)
        have HT := hid hlt
        have HL : Hid ((usV U t).length + 1 ≤ 1000000) := by show _ ≤ _; rw [usV_length]; have := us_length U t; omega
        have HOA := hid (HO.out.alloc (.cells #[.int .i64 (t : Nat)] 3))
        have HSZ : Hid (w.heap.size ≤ (wr.alloc (.cells #[.int .i64 (t : Nat)] 3)).heap.size) := (HU.out.alloc _).size
        clear hub hlt ht
        generalize (usV U t).length = L at HO HOA ⊢
        go_wp2_with (first
          | (at_builtin; refine wpList_append_int rfl (.tmp 17) (.tmp 19) rfl w.heap.size _ _ rfl HOA.out ⟨wr.heap.size, 0, none⟩ 1 (t : Int) rfl (World.cell?_alloc_new _ _ _ 0) HL.out HSZ.out ?_; intro v2 w2 H2 K2)
          | fail)
        have H3 : Hid (OwnV 3 w.heap.size w2 v2 (usV U (t + 1))) := by show OwnV _ _ _ _ _; rw [HY.out]; exact H2.out
        have U3 : Hid (Up Nul w w2) := (HU.out.alloc _).grown K2.out fun q hq => HO.out.base q hq
        clear HY H2 K2
        go_wp2_with fail
        go_roundw
        case rel => exact ⟨t + 1, HT.out, by go_num, H3.out, U3.out⟩
        case measure => have := HT.out; simp [intOf]; omega
    · obtain rfl : t = n := by omega
      go_wp2_with fail
      go_ret
      exact ⟨_, rfl, HO.out, HU.out⟩
theorem pfree_any (h : PBs w q b n U F) (hn : n ≤ 64) : Calls Try.prog 21 #[.pointer (some ⟨q, 0, none⟩)] w fun e w' => e = .returned (.int .i64 ((n : Int) - ((us U n).length : Nat))) ∧ Up Nul w w' := by
  have HL : Hid (∀ W, Up Nul w W → Calls Try.prog 14 #[.pointer (some ⟨q, 0, none⟩)] W fun e w' => ∃ a c, e = .returned (.slice a (us U n).length c) ∧ Up Nul W w') := fun W u => by
    refine (pused_any (h.keep fun g hg => u.block g (h.lt g hg) id) hn).mono ?_
    rintro e w' ⟨v, rfl, ho, hu⟩
    obtain ⟨a, c, rfl⟩ := ho.shape
    rw [usV_length]
    exact ⟨a, c, rfl, hu⟩
  obtain ⟨ub, h1, _⟩ := h
  have HC : Hid (∀ W, Up Nul w W → W.cell? ⟨q, 1, none⟩ = some (.slice (some ⟨ub, 0, none⟩) n n)) := fun W u => (h1.nxt u).c1
  have hle := us_length U n
  generalize (us U n).length = L at HL hle ⊢
  have HR0 : Hid (Up Nul w w) := Up.refl _ _
  have i1 : (L : Int) ≤ (n : Int) := by omega
  have i2 : (n : Int) ≤ 64 := by omega
  have i3 : IntKind.i64.wrap ((n : Int) - (L : Int)) = (n : Int) - (L : Int) := IntWalk.i64_in _ (by omega)
  clear h1
  go_enter Try.func21, Try.ntmps21
  go_wp2_with fail
  go_region_held3 (fun W => Up Nul w W ∧ W.cell? ⟨q, 1, none⟩ = some (.slice (some ⟨ub, 0, none⟩) n n))
    (first | exact ⟨by assumption, HC.out _ (by assumption)⟩ | exact ⟨HR0.out.drew, HC.out _ HR0.out.drew⟩)
    ((go_at_call 14; (with_reducible refine (HL.out _ (by first | exact HR0.out.drew | assumption)).mono ?_); rintro e wb ⟨a, c, rfl, kb⟩; have ob : Up Nul w wb := (by first | exact HR0.out.drew.trans kb | exact Up.trans (by assumption) kb); clear kb))
  all_goals
    have OB := hid ob
    clear ob
    go_wp2_with fail
    go_ret
    exact ⟨rfl, OB.out⟩
end
section
variable {w : World} {q b ub n : Nat} {U : Nat → Bool} {F : Nat → Prop}
theorem pread_err (h : PBs w q b n U F) (x id code : Int) (hc : ¬ code = 0)
    (hr : Calls Try.prog 57 #[.pointer (some ⟨b, 0, none⟩), .int .i64 x] w (fun e w2 => ∃ a l c, e = .returned (.tuple #[.slice a l c, .int .i64 code]) ∧ Up Nul w w2)) :
    Calls Try.prog 42 #[.pointer (some ⟨q, 0, none⟩), .int .i64 x, .int .i64 id] w fun e w2 => ∃ a c, e = .returned (.tuple #[.slice a 0 c, .int .i64 code]) ∧ Up Nul w w2 := by
  obtain ⟨ub, h1, _⟩ := h
  have c0 := h1.c0
  have HR := hid hr
  have hcb : (code == 0) = false := by simp [hc]
  clear h1 hr
  go_enter Try.func42, Try.ntmps42
  go_wp2_with fail
  refine HR.out.mono ?_
  rintro e w1 ⟨a, l, c, rfl, u⟩
  have HU := hid u
  clear u
  go_wp2
  go_ret2
  exact ⟨_, _, rfl, HU.out⟩
theorem pread_ok (h : PBs w q b n U F) (x id : Int) (z : List Nat)
    (hr : Calls Try.prog 57 #[.pointer (some ⟨b, 0, none⟩), .int .i64 x] w (fun e w2 => ∃ a c, e = .returned (.tuple #[.slice a 96 c, .int .i64 0]) ∧ Got w w2 a 96 c z)) :
    Calls Try.prog 42 #[.pointer (some ⟨q, 0, none⟩), .int .i64 x, .int .i64 id] w fun e w2 =>
      ((∃ a l c, FrM.tk z = some (FrM.idOf z, FrM.datOf z) ∧ (FrM.idOf z : Int) = id ∧ e = .returned (.tuple #[.slice a l c, .int .i64 0]) ∧ SlN w2 a l (FrM.datOf z)) ∨
       (∃ a c, (FrM.tk z = none ∨ ¬ (FrM.idOf z : Int) = id) ∧ e = .returned (.tuple #[.slice a 0 c, .int .i64 6]))) ∧ Up Nul w w2 := by
  obtain ⟨ub, h1, _⟩ := h
  have c0 := h1.c0
  have HR := hid hr
  clear h1 hr
  go_enter Try.func42, Try.ntmps42
  go_wp2_with fail
  refine HR.out.mono ?_
  rintro e w1 ⟨a, c, rfl, g⟩
  have G := hid g
  clear g
  go_wp2_with fail
  refine (holds_any a 96 c z id w1 G.out.sl G.out.cap).mono ?_
  rintro e w2 (⟨a2, c2, h1, h2, rfl, g2⟩ | ⟨h1, rfl, u⟩)
  · have G2 := hid (And.intro h1 (And.intro h2 g2))
    clear h1 h2 g2
    go_wp2
    go_ret2
    exact ⟨.inl ⟨_, _, _, G2.out.1, G2.out.2.1, rfl, G2.out.2.2.sl⟩, G.out.up.trans G2.out.2.2.up⟩
  · have G2 := hid (And.intro h1 u)
    clear h1 u
    go_wp2
    go_ret2
    exact ⟨.inr ⟨_, _, G2.out.1, rfl⟩, G.out.up.trans G2.out.2⟩
end
section
variable {w w' : World} {q b ub n : Nat} {U : Nat → Bool} {F : Nat → Prop}
theorem pwrite_bad (h : PBs w q b n U F) (hn : n ≤ 64) (x id : Int) (a : Option Addr) (l c : Nat) (z : List Nat) (hz : SlN w a l z) (hc : l ≤ c) (hid1 : -9223372036854775808 ≤ id ∧ id ≤ 9223372036854775807) (hx : x < 0 ∨ (n : Int) ≤ x ∨ U x.toNat = false ∨ id < 0 ∨ 4294967295 < id ∨ 64 < l) :
    Calls Try.prog 41 #[.pointer (some ⟨q, 0, none⟩), .int .i64 x, .int .i64 id, .slice a l c] w fun e w' => e = .returned (.int .i64 1) ∧ Up Nul w w' := by
  obtain ⟨ub, h1, _⟩ := h
  by_cases h0 : x < 0 ∨ (n : Int) ≤ x
  · have HL := hid (plack_yes h1 x h0)
    clear h1 hz hx hn h0
    go_enter Try.func41, Try.ntmps41
    go_wp2_with fail
    refine HL.out.mono ?_
    rintro e w1 ⟨rfl, rfl⟩
    go_wp2
    go_ret
    exact ⟨rfl, Up.refl _ _⟩
  · obtain ⟨i, rfl⟩ : ∃ i : Nat, x = i := ⟨x.toNat, by omega⟩
    have hi : i < n := by omega
    have i1 : (i : Int) < (n : Int) := by omega
    have cu := h1.row.cell hi
    have c1 := h1.c1
    have HL := hid (plack_no h1 i hi)
    cases hu : U i with
    | false =>
      rw [hu] at cu
      clear h1 hz hx hn h0 hu
      go_enter Try.func41, Try.ntmps41
      go_wp2_with fail
      refine HL.out.mono ?_
      rintro e w1 ⟨rfl, rfl⟩
      go_wp2
      go_ret
      exact ⟨rfl, Up.refl _ _⟩
    | true =>
      rw [hu] at cu
      have HF := hid (put_bad id a l c w hid1 hz.le (by
        rcases hx with e | e | e | e
        · exact absurd (.inl e) h0
        · exact absurd (.inr e) h0
        · simp [hu] at e
        · omega))
      clear h1 hz hx hn h0 hu
      go_enter Try.func41, Try.ntmps41
      go_wp2_with fail
      refine HL.out.mono ?_
      rintro e w1 ⟨rfl, rfl⟩
      go_wp2_with fail
      refine HF.out.mono ?_
      rintro e w2 ⟨rfl, rfl⟩
      go_wp2
      go_ret
      exact ⟨rfl, Up.refl _ _⟩
end
section
variable {w : World} {q b ub n : Nat} {U : Nat → Bool} {F : Nat → Prop}
theorem pwrite_good (h : PBs w q b n U F) (hn : n ≤ 64) (i id : Nat) (a : Option Addr) (l c : Nat) (z : List Nat) (P : Int → World → Prop) (hz : SlN w a l z) (hc : l ≤ c) (hi : i < n) (hu : U i = true) (hid1 : id < 4294967296) (hl : l ≤ 64)
    (hw : ∀ w1 a1 c1, Up Nul w w1 → SlN w1 a1 96 (FrM.fr id z) → (∀ y, a1 = some y → ∃ A, w1.heap[y.block]? = some (Obj.cells A 5 (0, 0))) → Calls Try.prog 56 #[.pointer (some ⟨b, 0, none⟩), .int .i64 (i : Nat), .slice a1 96 c1] w1 fun e w2 => ∃ code, e = .returned (.int .i64 code) ∧ P code w2) :
    Calls Try.prog 41 #[.pointer (some ⟨q, 0, none⟩), .int .i64 (i : Nat), .int .i64 (id : Nat), .slice a l c] w fun e w2 => ∃ code, e = .returned (.int .i64 code) ∧ P code w2 := by
  have HF := hid (put_good id a l c z w hid1 hl hz)
  have HZ : Hid (z.length ≤ 64) := by show _ ≤ _; rw [hz.len]; exact hl
  have HW := hid hw
  obtain ⟨ub, h1, _⟩ := h
  have H := hid h1
  have HI := hid hi
  have HL := hid (plack_no h1 i hi)
  have i1 : (i : Int) < (n : Int) := by omega
  have c1 := h1.c1
  have cu := h1.row.cell hi
  rw [hu] at cu
  clear h1 hz hl hw hid1 hi hu hn
  go_enter Try.func41, Try.ntmps41
  go_wp2_with fail
  refine HL.out.mono ?_
  rintro e w1 ⟨rfl, rfl⟩
  go_wp2_with fail
  refine HF.out.mono ?_
  rintro e w2 ⟨rfl, bl, u⟩
  have HU := hid u
  have HBL := hid bl
  have c0 := (H.out.nxt u).c0
  clear u bl
  go_wp2_with fail
  refine (HW.out w2 _ _ HU.out (fr_sln HBL.out HZ.out) (fun y hy => by injection hy with hy; rw [← hy]; exact ⟨_, HBL.out.heap⟩)).mono ?_
  rintro e w3 ⟨code, rfl, hp⟩
  have HP := hid hp
  clear hp
  go_wp2
  go_ret
  exact ⟨_, rfl, HP.out⟩
end

/-- A slice of ints that came in: each of its cells holds f there, in every world that is as w was. -/
structure SlI (w : World) (a : Option Addr) (n : Nat) (f : Nat → Int) : Prop where
  row : n = 0 ∨ ∃ g o, a = some ⟨g, o, none⟩ ∧ g < w.heap.size ∧ ∀ i, i < n → w.cell? ⟨g, o + i, none⟩ = some (.int .i64 (f i))
  le : n ≤ 9223372036854775807
theorem SlI.nxt {w w' : World} {a : Option Addr} {n : Nat} {f : Nat → Int} (h : SlI w a n f) (u : Up Nul w w') : SlI w' a n f := by
  refine ⟨?_, h.le⟩
  rcases h.row with e | ⟨g, o, e, l, r⟩
  · exact .inl e
  · exact .inr ⟨g, o, e, Nat.lt_of_lt_of_le l u.size, fun i hi => (u.cell (p := ⟨g, o + i, none⟩) l id).trans (r i hi)⟩
/-- What the row's step knows of a slice of ints. -/
abbrev CameI (w : World) (a : Option Addr) (len cap : Nat) (zs : List Int) : Prop :=
  (a = none ∧ len = 0 ∧ cap = 0 ∧ zs = []) ∨
  ∃ x, a = some x ∧ len ≤ cap ∧ cap ≤ maxLen ∧ zs.length = cap ∧ (∀ i, i < zs.length → w.cell? (x.add i) = some (.int .i64 (zs.getD i 0))) ∧ ∀ n ∈ zs, (Lit.int .i64 n).wf = true
theorem SlI.of {w : World} {a : Option Addr} {len cap : Nat} {zs : List Int} (h : CameI w a len cap zs) : ∃ f, SlI w a len f := by
  rcases h with ⟨_, h, _⟩ | ⟨x, rfl, hl, hm, hz, hc, hw⟩
  · exact ⟨fun _ => 0, .inl h, by omega⟩
  · unfold maxLen at hm
    by_cases h0 : len = 0
    · exact ⟨fun _ => 0, .inl h0, by omega⟩
    · obtain ⟨b, o, spot⟩ := x
      have hc0 := hc 0 (by omega)
      have hs : spot = none := by simpa [Addr.add] using World.cell?_spot hc0
      subst hs
      refine ⟨fun i => zs.getD i 0, .inr ⟨b, o, rfl, lt_of_cell hc0, fun i hi => ?_⟩, by omega⟩
      have := hc i (by omega)
      rw [add_off] at this
      exact this
end Go.Proofs.Ytcejdobmgbielaa
