/- The statements' own 'Made': a code made of numbers. -/
import Derived.Test.YtebglmfdchfplaaCodeRight
namespace Go.Proofs.Ytebglmfdchfplaa
open Go.RowKit
set_option linter.unusedVariables false

theorem i64_mask (k : Nat) (hk : k < 63) (n m : Int) (hm : (BitVec.ofInt 64 m).toNat = 2 ^ k - 1) : bits .and .i64 n m = n % (2 ^ k : Nat) := by
  have key : (BitVec.ofInt 64 n &&& BitVec.ofInt 64 m).toNat = (n % ((2 ^ 64 : Nat) : Int)).toNat % 2 ^ k := by
    rw [BitVec.toNat_and, BitVec.toNat_ofInt, hm, Nat.and_two_pow_sub_one_eq_mod]
  show IntKind.i64.wrap ((BitVec.ofInt 64 n &&& BitVec.ofInt 64 m).toNat : Nat) = n % (2 ^ k : Nat)
  rw [key, IntKind.wrap_i64]
  have h1 : (2 : Nat) ^ 64 = 2 ^ k * 2 ^ (64 - k) := by rw [← Nat.pow_add]; congr 1; omega
  have h2 : (0 : Int) ≤ n % ((2 ^ 64 : Nat) : Int) := Int.emod_nonneg _ (by decide)
  have h3 : (((n % ((2 ^ 64 : Nat) : Int)).toNat % 2 ^ k : Nat) : Int) = n % ((2 ^ k : Nat) : Int) := by
    rw [Int.natCast_emod, Int.toNat_of_nonneg h2, h1, Int.natCast_mul]
    exact Int.emod_emod_of_dvd n ⟨_, rfl⟩
  rw [h3]
  have h4 : (0 : Int) < ((2 ^ k : Nat) : Int) := by have := Nat.two_pow_pos k; omega
  have h5 := Int.emod_nonneg n (Int.ne_of_gt h4)
  have h6 := Int.emod_lt_of_pos n h4
  have h7 : (2 : Nat) ^ k ≤ 2 ^ 62 := Nat.pow_le_pow_right (by omega) (by omega)
  have h8 : (2 : Nat) ^ 62 = 4611686018427387904 := by decide
  omega
theorem i64_and7 (n : Int) : ∃ k : Nat, bits .and .i64 n 7 = (k : Int) - 1 ∧ 1 ≤ k ∧ k ≤ 8 := by
  rw [i64_mask 3 (by omega) n 7 (by decide)]
  exact ⟨(n % 8).toNat + 1, by show n % 8 = _; omega, by omega, by omega⟩
theorem i64_and255 (n : Int) : ∃ k : Nat, bits .and .i64 n 255 = (k : Int) ∧ k < 256 := by
  rw [i64_mask 8 (by omega) n 255 (by decide)]
  exact ⟨(n % 256).toNat, by show n % 256 = _; omega, by omega⟩
theorem i64_and3 (n : Int) : ∃ k : Nat, bits .and .i64 n 3 = (k : Int) - 1 ∧ 1 ≤ k ∧ k ≤ 4 := by
  rw [i64_mask 2 (by omega) n 3 (by decide)]
  exact ⟨(n % 4).toNat + 1, by show n % 4 = _; omega, by omega, by omega⟩
/-- Byte i of a code made of numbers. -/
def mdB (at_ : Int) (i : Nat) : Nat := ((at_ + 7 * (i : Int)) % 256).toNat
theorem mdB_lt (at_ : Int) (i : Nat) : mdB at_ i < 256 := by unfold mdB; omega
theorem mdB_inj {at_ : Int} {i j : Nat} (hi : i < 18) (hj : j < 18) (h : mdB at_ i = mdB at_ j) : i = j := by unfold mdB at h; omega
def mdX (at_ : Int) (k : Nat) : List Nat := tab k (mdB at_)
def mdY (at_ : Int) (k r : Nat) : List Nat := tab r fun j => mdB at_ (k + j)
theorem mdXY_at {at_ : Int} {k r i : Nat} (h : i < k + r) : (mdX at_ k ++ mdY at_ k r).getD i 0 = mdB at_ i := by
  have lx : (mdX at_ k).length = k := tab_length _ _
  simp only [List.getD_eq_getElem?_getD]
  rcases Nat.lt_or_ge i k with hi | hi
  · rw [List.getElem?_append_left (by omega)]
    have := tab_at k (mdB at_) i hi
    rw [List.getD_eq_getElem?_getD] at this
    exact this
  · rw [List.getElem?_append_right (by omega), lx]
    have := tab_at r (fun j => mdB at_ (k + j)) (i - k) (by omega)
    rw [List.getD_eq_getElem?_getD] at this
    rw [show k + (i - k) = i by omega] at this
    exact this
theorem md_dst {at_ : Int} {k r : Nat} (h : k + r ≤ 18) : Dst (mdX at_ k ++ mdY at_ k r) := by
  intro i j hi hj e
  have l : (mdX at_ k ++ mdY at_ k r).length = k + r := by rw [List.length_append]; unfold mdX mdY; rw [tab_length, tab_length]
  rw [l] at hi hj
  rw [mdXY_at hi, mdXY_at hj] at e
  exact mdB_inj (by omega) (by omega) e
theorem md_k (x : Int) : ∃ y k : Nat, bits .and .i64 x 255 = (y : Int) ∧ (y : Int).tmod 14 = (k : Int) - 1 ∧ (y : Int) % 14 = (k : Int) - 1 ∧ 1 ≤ k ∧ k ≤ 14 ∧ y < 256 := by
  obtain ⟨y, hy, h⟩ := i64_and255 x
  refine ⟨y, y % 14 + 1, hy, ?_, by omega, by omega, by omega, h⟩
  rw [Int.tmod_eq_emod_of_nonneg (by omega)]
  omega

/-- A code that is being filled: block P for the answer, block M for the code. -/
structure Fil (w : World) (P M : Nat) (zx zy : List Nat) (wr : World) (vx vy : Value) (B : Nat) : Prop where
  ox : OwnB (M + 1) wr vx zx
  oy : OwnB B wr vy zy
  mb : M + 1 ≤ B
  bw : B ≤ wr.heap.size
  xb : ∀ q, vx.ownBlock = some q → q < B
  m : wr.heap[M]? = some (.cells #[vx, vy] 25 (0, 0))
  p : wr.heap[P]? = some (.cells #[.slice none 0 0, .slice none 0 0] 25 (0, 0))
  up : Up Nul w wr
  PM : P < M
  Pw : w.heap.size ≤ P
theorem heap2 {w : World} {P : Nat} {x0 x1 : Value} {t : TypeId} (h : w.heap[P]? = some (.cells #[x0, x1] t (0, 0))) (y0 y1 : Value) :
    ((w.setCell ⟨P, 0, none⟩ y0).setCell ⟨P, 1, none⟩ y1).heap[P]? = some (.cells #[y0, y1] t (0, 0)) := heap_set_same (heap_set_same h 0 y0) 1 y1
theorem Fil.start (w : World) : Fil w w.heap.size (w.heap.size + 1) [] [] ((w.alloc (.cells #[.slice none 0 0, .slice none 0 0] 25)).alloc (.cells #[.slice none 0 0, .slice none 0 0] 25)) (.slice none 0 0) (.slice none 0 0) (w.heap.size + 2) := by
  have e : (w.alloc (.cells #[.slice none 0 0, .slice none 0 0] 25)).heap.size = w.heap.size + 1 := by simp
  have h2 := heap_alloc_new (w.alloc (.cells #[.slice none 0 0, .slice none 0 0] 25)) (.cells #[.slice none 0 0, .slice none 0 0] 25)
  rw [e] at h2
  exact ⟨OwnB.nil _ _, OwnB.nil _ _, by omega, by simp, (fun q h => by cases h), h2, (Below.heap_alloc _ _ _ (by rw [e]; omega)).trans (heap_alloc_new _ _), ((Up.refl _ _).alloc _).alloc _, by omega, Nat.le_refl _⟩
theorem Fil.c0 {w wr : World} {P M B : Nat} {zx zy : List Nat} {vx vy : Value} (h : Fil w P M zx zy wr vx vy B) : wr.cell? ⟨M, 0, none⟩ = some vx := by simp only [World.cell?, h.m]; rfl
theorem Fil.c1 {w wr : World} {P M B : Nat} {zx zy : List Nat} {vx vy : Value} (h : Fil w P M zx zy wr vx vy B) : wr.cell? ⟨M, 1, none⟩ = some vy := by simp only [World.cell?, h.m]; rfl
theorem Fil.fr {w wr : World} {P M B : Nat} {zx zy : List Nat} {vx vy : Value} (h : Fil w P M zx zy wr vx vy B) (j : Nat) : wr.frozen? ⟨M, j, none⟩ = false := by simp [World.frozen?, h.m]
/-- Behind 'c.X = append(c.X, b)', c.Y being nil. -/
theorem Fil.nextX {w wr w2 : World} {P M B y : Nat} {zx : List Nat} {vx v2 : Value} {o : Obj} (h : Fil w P M zx [] wr vx (.slice none 0 0) B) (hown : OwnB (M + 1) w2 v2 (zx ++ [y])) (hg : (wr.alloc o).grownBy w2 vx.ownBlock) :
    Fil w P M (zx ++ [y]) [] (w2.setCell ⟨M, 0, none⟩ v2) v2 (.slice none 0 0) w2.heap.size := by
  have hb := h.ox.base
  have hM : M < wr.heap.size := (Array.getElem?_eq_some_iff.1 h.m).1
  have hP := h.PM
  have hW := h.Pw
  have m2 : w2.heap[M]? = some (.cells #[vx, .slice none 0 0] 25 (0, 0)) := (hg.block M (by simp; omega) (fun e => by have := hb M e.symm; omega)).trans ((Below.heap_alloc _ _ _ hM).trans h.m)
  have p2 : w2.heap[P]? = _ := (hg.block P (by simp; omega) (fun e => by have := hb P e.symm; omega)).trans ((Below.heap_alloc _ _ _ (by omega)).trans h.p)
  have u1 : Up (One M) w2 (w2.setCell ⟨M, 0, none⟩ v2) := (Up.refl _ _).setCell (p := ⟨M, 0, none⟩) (.inr (show One M M from rfl)) _
  refine ⟨hown.up u1 (fun k hk e => by unfold One at e; omega), OwnB.nil _ _, ?_, by simp, fun q hq => ?_, ?_, (Below.heap_setCell _ _ _ _ (by show P ≠ M; omega)).trans p2, ?_, hP, hW⟩
  · have := (Array.getElem?_eq_some_iff.1 m2).1
    omega
  · rcases hown.own.2 with ⟨e, _⟩ | ⟨g, cap, cur, e, h2, h3, _⟩
    · subst e; cases hq
    · subst e
      have : g = q := by simpa [Value.ownBlock] using hq
      have := (Array.getElem?_eq_some_iff.1 h3).1
      omega
  · have := heap_set_same m2 0 v2
    simpa using this
  · exact ((h.up.alloc o).grown hg fun k hk => by have := hb k hk; omega).setCell (p := ⟨M, 0, none⟩) (.inl (by show _ ≤ M; omega)) _
/-- Behind 'c.Y = append(c.Y, b)'. -/
theorem Fil.nextY {w wr w2 : World} {P M B y : Nat} {zx zy : List Nat} {vx vy v2 : Value} {o : Obj} (h : Fil w P M zx zy wr vx vy B) (hown : OwnB B w2 v2 (zy ++ [y])) (hg : (wr.alloc o).grownBy w2 vy.ownBlock) :
    Fil w P M zx (zy ++ [y]) (w2.setCell ⟨M, 1, none⟩ v2) vx v2 B := by
  have hb := h.oy.base
  have hM : M < wr.heap.size := (Array.getElem?_eq_some_iff.1 h.m).1
  have hP := h.PM
  have hW := h.Pw
  have hmb := h.mb
  have m2 : w2.heap[M]? = some (.cells #[vx, vy] 25 (0, 0)) := (hg.block M (by simp; omega) (fun e => by have := hb M e.symm; omega)).trans ((Below.heap_alloc _ _ _ hM).trans h.m)
  have p2 : w2.heap[P]? = _ := (hg.block P (by simp; omega) (fun e => by have := hb P e.symm; omega)).trans ((Below.heap_alloc _ _ _ (by omega)).trans h.p)
  have u1 : Up (One M) w2 (w2.setCell ⟨M, 1, none⟩ v2) := (Up.refl _ _).setCell (p := ⟨M, 1, none⟩) (.inr (show One M M from rfl)) _
  have ox2 : OwnB (M + 1) w2 vx zx := by
    refine ⟨World.ownsRow.kept (h.ox.alloc o).own hg ?_, h.ox.small⟩
    cases e : vx.ownBlock with
    | none => exact .inl rfl
    | some q => exact .inr fun e2 => by have := h.xb q e; have := hb q e2.symm; omega
  have hs := hg.size
  refine ⟨ox2.up u1 (fun k hk e => by unfold One at e; omega), hown.up u1 (fun k hk e => by unfold One at e; omega), hmb, ?_, h.xb, ?_, (Below.heap_setCell _ _ _ _ (by show P ≠ M; omega)).trans p2, ?_, hP, hW⟩
  · have := h.bw
    simp at hs ⊢
    omega
  · have := heap_set_same m2 1 v2
    simpa using this
  · exact ((h.up.alloc o).grown hg fun k hk => by have := hb k hk; omega).setCell (p := ⟨M, 1, none⟩) (.inl (by show _ ≤ M; omega)) _
theorem Fil.afterX {w wr w2 : World} {P M B : Nat} {zx zy : List Nat} {vx vy : Value} {o : Obj} (h : Fil w P M zx zy wr vx vy B) (hg : (wr.alloc o).grownBy w2 vx.ownBlock) : w2.heap[M]? = some (.cells #[vx, vy] 25 (0, 0)) := by
  have hM : M < wr.heap.size := (Array.getElem?_eq_some_iff.1 h.m).1
  exact (hg.block M (by simp; omega) (fun e => by have := h.ox.base M e.symm; omega)).trans ((Below.heap_alloc _ _ _ hM).trans h.m)
theorem Fil.afterY {w wr w2 : World} {P M B : Nat} {zx zy : List Nat} {vx vy : Value} {o : Obj} (h : Fil w P M zx zy wr vx vy B) (hg : (wr.alloc o).grownBy w2 vy.ownBlock) : w2.heap[M]? = some (.cells #[vx, vy] 25 (0, 0)) := by
  have hM : M < wr.heap.size := (Array.getElem?_eq_some_iff.1 h.m).1
  exact (hg.block M (by simp; omega) (fun e => by have := h.oy.base M e.symm; have := h.mb; omega)).trans ((Below.heap_alloc _ _ _ hM).trans h.m)
theorem cell_of2 {w : World} {M : Nat} {x y : Value} {t : TypeId} (h : w.heap[M]? = some (.cells #[x, y] t (0, 0))) : w.cell? ⟨M, 0, none⟩ = some x ∧ w.cell? ⟨M, 1, none⟩ = some y ∧ ∀ j, w.frozen? ⟨M, j, none⟩ = false := by
  refine ⟨by simp only [World.cell?, h]; rfl, by simp only [World.cell?, h]; rfl, fun j => by simp [World.frozen?, h]⟩
theorem OwnB.shape2 {base : Nat} {w : World} {v : Value} {z : List Nat} (h : OwnB base w v z) : ∃ a n cap, v = .slice a n cap := by
  rcases h.own.2 with ⟨e, _⟩ | ⟨g, cap, cur, e, _⟩
  · exact ⟨_, _, _, e⟩
  · exact ⟨_, _, _, e⟩
theorem info_c2 : (Try.prog.info? 25).map (·.size) = some 2 := by kernel_rfl
set_option maxRecDepth 100000 in
set_option maxHeartbeats 1600000 in
theorem made_any (k0 r0 at_ : Int) (k r y : Nat) (w : World) (h1 : bits .and .i64 k0 255 = (y : Int)) (h2 : (y : Int).tmod 14 = (k : Int) - 1) (h3 : (y : Int) % 14 = (k : Int) - 1) (k1 : 1 ≤ k) (k14 : k ≤ 14) (hy : y < 256) (hr : bits .and .i64 r0 3 = (r : Int) - 1) (r1 : 1 ≤ r) (r4 : r ≤ 4) :
    Calls Try.prog 9 #[.int .i64 k0, .int .i64 r0, .int .i64 at_] w
      fun e w' => ∃ vx vy, e = .returned (.agg #[vx, vy]) ∧ OwnB w.heap.size w' vx (mdX at_ k) ∧ OwnB w.heap.size w' vy (mdY at_ k r) ∧ Up Nul w w' := by
  have HS := hid (Fil.start w)
  go_enter Try.func9, Try.ntmps9
  go_wp2_with fail
  generalize ((w.alloc (.cells #[.slice none 0 0, .slice none 0 0] 25)).alloc (.cells #[.slice none 0 0, .slice none 0 0] 25)) = wz at *
  obtain ⟨P, PP⟩ : ∃ x, x = w.heap.size := ⟨_, rfl⟩
  obtain ⟨M, MM⟩ : ∃ x, x = w.heap.size + 1 := ⟨_, rfl⟩
  rw [← MM, ← PP] at HS
  rw [← MM, ← PP]
  have HPW : Hid (P = w.heap.size) := PP
  clear PP MM
  go_loopw [8] (fun i wr => ∃ j : Nat, j ≤ k + r ∧ i = .int .i64 j ∧ ∃ vx vy B, Fil w P M (tab (min j k) (mdB at_)) (tab (j - k) fun t => mdB at_ (k + t)) wr vx vy B ∧ (j ≤ k → vy = .slice none 0 0)) (fun i _ => (k + r) - (intOf i).toNat)
  case atStart => exact ⟨0, by omega, rfl, _, _, _, by rw [Nat.zero_min, Nat.zero_sub]; exact HS.out, fun _ => rfl⟩
  case round =>
    clear HS
    obtain ⟨j, hj, rfl, vx, vy, B, hf, hnil⟩ := hrel
    have HF := hid hf
    have HNL := hid hnil
    have x0 := hf.c0
    have x1 := hf.c1
    have f0 := hf.fr 0
    have f1 := hf.fr 1
    clear hf hnil
    by_cases hlt : j < k + r
    · have hv : wrap64 (at_ + 7 * (j : Int)) % 256 = ((mdB at_ j : Nat) : Int) := by unfold wrap64 mdB; omega
      have y8 := mdB_lt at_ j
      obtain ⟨b, HB⟩ : ∃ x, Hid (mdB at_ j = x) := ⟨_, rfl⟩
      rw [HB.out] at hv y8
      by_cases hx : j < k
      · obtain rfl := HNL.out (by omega)
        have e1 : min j k = j := by omega
        have e2 : (tab (j - k) fun t => mdB at_ (k + t)) = [] := by rw [show j - k = 0 by omega]; rfl
        rw [e1, e2] at HF
        clear e1 e2
        go_wp2_with (first
          | (at_builtin; refine wpList_append_byte rfl (.tmp 33) (.tmp 35) rfl (M + 1) vx (tab j (mdB at_)) rfl (HF.out.ox.alloc _) ⟨wr.heap.size, 0, none⟩ 1 b rfl (World.cell?_alloc_new wr _ _ 0) y8 (by rw [tab_length]; omega) (by have := HF.out.mb; have := HF.out.bw; simp; omega) ?_; intro v2 w2 H1 H2; obtain ⟨g2, cap2, e2, _⟩ := H1.out.row (by simp); rw [List.length_append, tab_length] at e2; subst e2; have hm := cell_of2 (HF.out.afterX H2.out); have c3 := hm.1; have f3 := hm.2.2 0; clear hm)
          | go_in)
        go_roundw
        case rel => exact ⟨j + 1, by omega, by go_num, _, _, _, by
          rw [show min (j + 1) k = j + 1 by omega, show j + 1 - k = 0 by omega, tab_next, HB.out]
          exact HF.out.nextX H1.out H2.out, fun _ => rfl⟩
        case measure => simp [intOf]; omega
      · have e1 : min j k = k := by omega
        obtain ⟨d, rfl⟩ : ∃ d, j = k + d := ⟨j - k, by omega⟩
        have e2 : k + d - k = d := by omega
        rw [e1, e2] at HF
        have hd4 : d < 4 := by omega
        rw [show ((k + d : Nat) : Int) = (k : Int) + (d : Int) by simp] at hv
        clear e1 e2 HNL
        go_wp2_with (first
          | (at_builtin; refine wpList_append_byte rfl (.tmp 39) (.tmp 41) rfl B vy (tab d fun t => mdB at_ (k + t)) rfl (HF.out.oy.alloc _) ⟨wr.heap.size, 0, none⟩ 1 b rfl (World.cell?_alloc_new wr _ _ 0) y8 (by rw [tab_length]; omega) (by have := HF.out.bw; simp; omega) ?_; intro v2 w2 H1 H2; obtain ⟨g2, cap2, e2, _⟩ := H1.out.row (by simp); rw [List.length_append, tab_length] at e2; subst e2; have hm := cell_of2 (HF.out.afterY H2.out); have c3 := hm.2.1; have f3 := hm.2.2 1; clear hm)
          | go_in)
        go_roundw
        case rel => exact ⟨k + d + 1, by omega, by go_num, _, _, _, by
          rw [show min (k + d + 1) k = k by omega, show k + d + 1 - k = d + 1 by omega, tab_next, HB.out]
          exact HF.out.nextY H1.out H2.out, fun h => by omega⟩
        case measure => simp [intOf]; omega
    · obtain rfl : j = k + r := by omega
      have e1 : min (k + r) k = k := by omega
      have e2 : k + r - k = r := by omega
      rw [e1, e2] at HF
      have a0 := (cell_of2 HF.out.p).1
      have a1 := (cell_of2 HF.out.p).2.1
      have a3 := (cell_of2 HF.out.p).2.2
      have hMP : P ≠ M := by have := HF.out.PM; omega
      obtain ⟨xa, xn, xc, rfl⟩ := HF.out.ox.shape2
      obtain ⟨ya, yn, yc, rfl⟩ := HF.out.oy.shape2
      clear e1 e2 HNL
      go_wp2
      refine bodyPost_ret (results_cell_row (P := Try.prog) (ty := 25) rfl _ _ P _ _ _ _ rfl (heap2 HF.out.p _ _) Try.underlying25 rfl info_c2) rfl ?_
      have hu : Up (One P) wr ((wr.setCell ⟨P, 0, none⟩ (.slice xa xn xc)).setCell ⟨P, 1, none⟩ (.slice ya yn yc)) := ((Up.refl _ wr).setCell (p := ⟨P, 0, none⟩) (.inr (show One P P from rfl)) _).setCell (p := ⟨P, 1, none⟩) (.inr (show One P P from rfl)) _
      have h1 := HF.out.PM
      have h2 := HF.out.Pw
      have h3 := HF.out.mb
      have lift : ∀ {b1 b2 : Nat} {W : World} {v : Value} {z : List Nat}, OwnB b1 W v z → b2 ≤ b1 → OwnB b2 W v z := fun h hb => ⟨⟨h.own.1, by
        rcases h.own.2 with h | ⟨g, cap, cur, q1, q2, q3⟩
        · exact .inl h
        · exact .inr ⟨g, cap, cur, q1, by omega, q3⟩⟩, h.small⟩
      refine ⟨_, _, rfl, lift (HF.out.ox.up hu fun q hq e => by unfold One at e; omega) (by omega), lift (HF.out.oy.up hu fun q hq e => by unfold One at e; omega) (by omega), (HF.out.up.setCell (p := ⟨P, 0, none⟩) (.inl h2) _).setCell (p := ⟨P, 1, none⟩) (.inl h2) _⟩

/-! ### A code made of numbers, in a variable -/
/-- A document's code in block V. -/
structure LC (FS : List Nat) (w : World) (V gx cx gy cy k r : Nat) (X Y : List Nat) : Prop where
  c0 : w.cell? ⟨V, 0, none⟩ = some (.slice (some ⟨gx, 0, none⟩) k cx)
  c1 : w.cell? ⟨V, 1, none⟩ = some (.slice (some ⟨gy, 0, none⟩) r cy)
  lt : V < w.heap.size
  b : V ∉ FS
  x : LR FS w gx 0 X
  y : LR FS w gy 0 Y
theorem LC.nxt {FS : List Nat} {w w' : World} {V gx cx gy cy k r : Nat} {X Y : List Nat} (h : LC FS w V gx cx gy cy k r X Y) (n : Nxt FS w w') : LC FS w' V gx cx gy cy k r X Y :=
  have e : ∀ j, w'.cell? ⟨V, j, none⟩ = w.cell? ⟨V, j, none⟩ := fun j => n.up.cell (p := ⟨V, j, none⟩) h.lt h.b
  ⟨(e 0).trans h.c0, (e 1).trans h.c1, Nat.lt_of_lt_of_le h.lt n.up.size, h.b, h.x.nxt n, h.y.nxt n⟩
theorem LC.newF {FS : List Nat} {w w' : World} {V gx cx gy cy k r G : Nat} {X Y : List Nat} (h : LC FS w V gx cx gy cy k r X Y) (n : NewF w w' G) : LC (G :: FS) w' V gx cx gy cy k r X Y :=
  have e : ∀ j, w'.cell? ⟨V, j, none⟩ = w.cell? ⟨V, j, none⟩ := fun j => n.n.up.cell (p := ⟨V, j, none⟩) h.lt id
  ⟨(e 0).trans h.c0, (e 1).trans h.c1, Nat.lt_of_lt_of_le h.lt n.n.up.size, fun hm => by
    rcases List.mem_cons.1 hm with e | hm
    · have := h.lt
      have := n.eq
      omega
    · exact h.b hm, h.x.newF n, h.y.newF n⟩
theorem mdX_length (at_ : Int) (k : Nat) : (mdX at_ k).length = k := tab_length _ _
theorem mdY_length (at_ : Int) (k r : Nat) : (mdY at_ k r).length = r := tab_length _ _
theorem madeL {w0 w : World} {FS : List Nat} {k0 r0 at_ : Int} {k r y : Nat} (h : LS w0 FS w) (h1 : bits .and .i64 k0 255 = (y : Int)) (h2 : (y : Int).tmod 14 = (k : Int) - 1) (h3 : (y : Int) % 14 = (k : Int) - 1) (k1 : 1 ≤ k) (k14 : k ≤ 14) (hy : y < 256) (hr : bits .and .i64 r0 3 = (r : Int) - 1) (r1 : 1 ≤ r) (r4 : r ≤ 4) :
    Calls Try.prog 9 #[.int .i64 k0, .int .i64 r0, .int .i64 at_] w
      fun e w' => ∃ gx cx gy cy, e = .returned (.agg #[.slice (some ⟨gx, 0, none⟩) k cx, .slice (some ⟨gy, 0, none⟩) r cy]) ∧ LR FS w' gx 0 (mdX at_ k) ∧ LR FS w' gy 0 (mdY at_ k r) ∧ Nxt FS w w' := by
  refine (made_any k0 r0 at_ k r y w h1 h2 h3 k1 k14 hy hr r1 r4).mono ?_
  rintro e w' ⟨vx, vy, rfl, ox, oy, u⟩
  obtain ⟨gx, cx, rfl, x1, x2, x3, _, _⟩ := ox.row (by rw [mdX_length]; omega)
  obtain ⟨gy, cy, rfl, y1, y2, y3, _, _⟩ := oy.row (by rw [mdY_length]; omega)
  rw [mdX_length, mdY_length]
  exact ⟨gx, cx, gy, cy, rfl, ⟨x3, x2, h.lt x1⟩, ⟨y3, y2, h.lt y1⟩, h.nul u⟩
theorem LC.new {w0 w : World} {FS : List Nat} {gx cx gy cy k r : Nat} {X Y : List Nat} (h : LS w0 FS w) (hx : LR FS w gx 0 X) (hy : LR FS w gy 0 Y) (t : TypeId) :
    LC FS (w.alloc (.cells #[.slice (some ⟨gx, 0, none⟩) k cx, .slice (some ⟨gy, 0, none⟩) r cy] t)) w.heap.size gx cx gy cy k r X Y :=
  have n := h.alloc (.cells #[.slice (some ⟨gx, 0, none⟩) k cx, .slice (some ⟨gy, 0, none⟩) r cy] t)
  ⟨World.cell?_alloc_new w _ _ 0, World.cell?_alloc_new w _ _ 1, by simp, h.lt (Nat.le_refl _), hx.nxt n, hy.nxt n⟩
end Go.Proofs.Ytebglmfdchfplaa
