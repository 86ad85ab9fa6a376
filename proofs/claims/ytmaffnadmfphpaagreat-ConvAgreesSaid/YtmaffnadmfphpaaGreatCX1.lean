/- Part 1 of what the walks rest on: GfIn, CodeMade, CodeAwake, CodeEmptyWalk, CodeData, CodeShards, CodeWholeWalk, CodeAnyWalk. -/
import Derived.Test.YtmaffnadmfphpaaGreatCB
import Derived.KernelRfl
import Derived.WalkKit
import Derived.WalkSpells
import Derived.Defers
import Derived.Laws.Pointers
import Derived.Laws.LoneSync
import Derived.RegionTactic
import Derived.RegionCalls
import Derived.ChangeAlike
import Derived.WalkLawsBesides
import Derived.Outline
import Derived.IntWalk
import Derived.OpenShut
import Derived.Laws.BitsAllLaws
import Derived.Deep.RegionHeld3
import Derived.Deep.DrawnRows
import Derived.Deep.QuietTactic
import Derived.BigQuiet
import Derived.Lib.SlBytesRow
import Derived.Laws.CopyRow
import Derived.Laws.OwnMore
import Derived.OwnWalk
import Derived.Laws.Rows
import Derived.StillTailTactics
import Derived.BigRegion
import Derived.Laws.CopyOwn
import Derived.Deep.CutBlock
import Derived.Deep.DeepCutAuto
import Derived.Lib.AppendZeros
import Derived.Shelf.Bytes.SlCountOne
import Derived.Lib.ConvBytes
import Derived.WalkSmall
import Derived.Laws.Bits64b
namespace Go.Proofs.YtmaffnadmfphpaaGreat
open Go.RowKit
set_option linter.unusedVariables false


/-- What the row's step knows of a slice of bytes. -/
abbrev CameIn (w : World) (a : Option Addr) (len cap : Nat) (zs : List Int) : Prop :=
  (a = none ∧ len = 0 ∧ cap = 0 ∧ zs = []) ∨
  ∃ x, a = some x ∧ len ≤ cap ∧ cap ≤ maxLen ∧ zs.length = cap ∧ (∀ i, i < zs.length → w.cell? (x.add i) = some (.int .u8 (zs.getD i 0))) ∧ ∀ n ∈ zs, (Lit.int .u8 n).wf = true
theorem came_in {w : World} {a : Option Addr} {len cap : Nat} {zs : List Int} (h : CameIn w a len cap zs) :
    len = 0 ∨ ∃ (b o : Nat) (z : List Nat), a = some ⟨b, o, none⟩ ∧ z.length = len ∧ Row w b o z ∧ b < w.heap.size ∧ len ≤ 9223372036854775807 := by
  rcases h with ⟨_, h, _⟩ | ⟨x, rfl, hl, hm, hz, hc, hw⟩
  · exact .inl h
  · by_cases h0 : len = 0
    · exact .inl h0
    · obtain ⟨b, o, spot⟩ := x
      have hc0 := hc 0 (by omega)
      have hs : spot = none := by simpa [Addr.add] using World.cell?_spot hc0
      subst hs
      unfold maxLen at hm
      have hlen : ((zs.take len).map Int.toNat).length = len := by simp; omega
      have hget : ∀ i, i < len → ((((zs.take len).map Int.toNat).getD i 0 : Nat) : Int) = zs.getD i 0 := fun i hi => by
        have hz' : i < zs.length := by omega
        have hwi := bounds_u8 (hw (zs[i]) (List.getElem_mem hz'))
        simp [List.getD_eq_getElem?_getD, hi, List.getElem?_eq_getElem hz']
        omega
      refine .inr ⟨b, o, (zs.take len).map Int.toNat, rfl, hlen, ⟨fun i hi => ?_, fun i => ?_⟩, lt_of_cell hc0, by omega⟩
      · rw [hlen] at hi
        have := hc i (by omega)
        rw [hget i hi]
        have ea : Addr.add ⟨b, o, none⟩ i = ⟨b, o + i, none⟩ := by
          by_cases h0 : i = 0
          · subst h0; simp [Addr.add]
          · simp [Addr.add, h0]
        rw [ea] at this
        exact this
      · rcases Nat.lt_or_ge i len with hi | hi
        · have hz' : i < zs.length := by omega
          have hwi := bounds_u8 (hw (zs[i]) (List.getElem_mem hz'))
          have := hget i hi
          simp [List.getD_eq_getElem?_getD, List.getElem?_eq_getElem hz'] at this
          simp [List.getD_eq_getElem?_getD]
          omega
        · have : ((zs.take len).map Int.toNat)[i]? = none := List.getElem?_eq_none (by omega)
          simp only [List.getD_eq_getElem?_getD, this]
          decide
/-- A slice of bytes that came in, and the string that its bytes are. -/
structure Sl (w : World) (a : Option Addr) (len cap : Nat) (s : ByteArray) : Prop where
  size : s.size = len
  conv : ∀ w', Below w.heap.size w w' → (convert 22 9 (.slice a len cap)).run Tryz.prog w' = .ok (.string s) w'
  row : len = 0 ∨ ∃ b o, a = some ⟨b, o, none⟩ ∧ b < w.heap.size ∧ Row w b o (nums s)
  le : len ≤ 9223372036854775807
theorem conv_zero (a : Option Addr) (cap : Nat) (w : World) : (convert 22 9 (.slice a 0 cap)).run Tryz.prog w = .ok (.string ByteArray.empty) w := by
  cases a with
  | none => exact run_convert_bytes_nil (P := Tryz.prog) w 22 5 Tryz.underlying22 Tryz.underlying5 0 cap 9 Tryz.underlying9
  | some x =>
    rw [run_convert_bytes_string (P := Tryz.prog) w 22 9 5 _ _ _ Tryz.underlying22 Tryz.underlying5 Tryz.underlying9]
    exact run_bytesToString w x 0 cap [] (by rfl)
theorem Sl.of {w : World} {a : Option Addr} {len cap : Nat} {zs : List Int} (h : CameIn w a len cap zs) : ∃ s, Sl w a len cap s := by
  rcases came_in h with rfl | ⟨b, o, z, rfl, rfl, r, hb, hm⟩
  · exact ⟨ByteArray.empty, rfl, fun w' _ => conv_zero a cap w', .inl rfl, by omega⟩
  · have hsz : (⟨(z.map UInt8.ofNat).toArray⟩ : ByteArray).size = z.length := by
      show (z.map UInt8.ofNat).toArray.size = _
      simp
    have hn : nums ⟨(z.map UInt8.ofNat).toArray⟩ = z := by
      apply List.ext_getElem
      · simp [nums]
      · intro i h1 h2
        have := r.small i
        simp [List.getD_eq_getElem?_getD, List.getElem?_eq_getElem h2] at this
        simp [nums]
        omega
    refine ⟨⟨(z.map UInt8.ofNat).toArray⟩, hsz, fun w' hw' => ?_, .inr ⟨b, o, rfl, hb, by rw [hn]; exact r⟩, hm⟩
    rw [← hsz]
    refine Lib.run_convert_whole (P := Tryz.prog) w' 22 5 9 Tryz.underlying22 Tryz.underlying5 Tryz.underlying9 b o _ (fun i hi => ?_) cap
    rw [hw'.cell (p := ⟨b, o + i, none⟩) hb, r.cells i (by rw [← hsz]; exact hi)]
    have e := nums_at ⟨(z.map UInt8.ofNat).toArray⟩ i hi
    rw [hn] at e
    rw [e]
theorem i64_and7 (n : Int) : ∃ k : Nat, bits .and .i64 n 7 = (k : Int) - 1 ∧ 1 ≤ k ∧ k ≤ 8 := by
  rw [i64_mask 3 (by omega) n 7 (by decide)]
  exact ⟨(n % 8).toNat + 1, by show n % 8 = _; omega, by omega, by omega⟩
theorem i64_and255 (n : Int) : ∃ k : Nat, bits .and .i64 n 255 = (k : Int) ∧ k < 256 := by
  rw [i64_mask 8 (by omega) n 255 (by decide)]
  exact ⟨(n % 256).toNat, by show n % 256 = _; omega, by omega⟩
theorem i64_and3 (n : Int) : ∃ k : Nat, bits .and .i64 n 3 = (k : Int) - 1 ∧ 1 ≤ k ∧ k ≤ 4 := by
  rw [i64_mask 2 (by omega) n 3 (by decide)]
  exact ⟨(n % 4).toNat + 1, by show n % 4 = _; omega, by omega, by omega⟩
theorem mdB_lt (at_ : Int) (i : Nat) : mdB at_ i < 256 := by unfold mdB; omega
theorem md_k (x : Int) : ∃ y k : Nat, bits .and .i64 x 255 = (y : Int) ∧ (y : Int).tmod 14 = (k : Int) - 1 ∧ (y : Int) % 14 = (k : Int) - 1 ∧ 1 ≤ k ∧ k ≤ 14 ∧ y < 256 := by
  obtain ⟨y, hy, h⟩ := i64_and255 x
  refine ⟨y, y % 14 + 1, hy, ?_, by omega, by omega, by omega, h⟩
  rw [Int.tmod_eq_emod_of_nonneg (by omega)]
  omega
theorem heap2 {w : World} {P : Nat} {x0 x1 : Value} {t : TypeId} (h : w.heap[P]? = some (.cells #[x0, x1] t (0, 0))) (y0 y1 : Value) :
    ((w.setCell ⟨P, 0, none⟩ y0).setCell ⟨P, 1, none⟩ y1).heap[P]? = some (.cells #[y0, y1] t (0, 0)) := heap_set_same (heap_set_same h 0 y0) 1 y1
/-- Behind 'c.X = append(c.X, b)', c.Y being nil. -/
theorem Fil.nextX {w wr w2 : World} {P M B y : Nat} {zx : List Nat} {vx v2 : Value} {o : Obj} (h : Fil w P M zx [] wr vx (.slice none 0 0) B) (hown : OwnB (M + 1) w2 v2 (zx ++ [y])) (hg : (wr.alloc o).grownBy w2 vx.ownBlock) :
    Fil w P M (zx ++ [y]) [] (w2.setCell ⟨M, 0, none⟩ v2) v2 (.slice none 0 0) w2.heap.size := by
  have hb := h.ox.base
  have hM : M < wr.heap.size := (Array.getElem?_eq_some_iff.1 h.m).1
  have hP := h.PM
  have hW := h.Pw
  have m2 : w2.heap[M]? = some (.cells #[vx, .slice none 0 0] 79 (0, 0)) := (hg.block M (by simp; omega) (fun e => by have := hb M e.symm; omega)).trans ((Below.heap_alloc _ _ _ hM).trans h.m)
  have p2 : w2.heap[P]? = _ := (hg.block P (by simp; omega) (fun e => by have := hb P e.symm; omega)).trans ((Below.heap_alloc _ _ _ (by omega)).trans h.p)
  have u1 : Up (One M) w2 (w2.setCell ⟨M, 0, none⟩ v2) := (Up.refl _ _).setCell (p := ⟨M, 0, none⟩) (.inr (show One M M from rfl)) _
  refine ⟨hown.up u1 (fun k hk e => by unfold One at e; omega), OwnB.nil _ _, ?_, by simp, fun q hq => ?_, ?_, (Below.heap_setCell _ _ _ _ (by show P ≠ M; omega)).trans p2, ?_, hP, hW⟩
  · have := (Array.getElem?_eq_some_iff.1 m2).1
    omega
  · rcases hown.own.2 with ⟨e, _⟩ | ⟨g, cap, cur, e, h2, h3, _⟩
    · subst e; cases hq
    · subst e
      have : g = q := by simpa [Value.ownBlock] using hq
      have := (Array.getElem?_eq_some_iff.1 h3).1
      omega
  · have := heap_set_same m2 0 v2
    simpa using this
  · exact ((h.up.alloc o).grown hg fun k hk => by have := hb k hk; omega).setCell (p := ⟨M, 0, none⟩) (.inl (by show _ ≤ M; omega)) _
/-- Behind 'c.Y = append(c.Y, b)'. -/
theorem Fil.nextY {w wr w2 : World} {P M B y : Nat} {zx zy : List Nat} {vx vy v2 : Value} {o : Obj} (h : Fil w P M zx zy wr vx vy B) (hown : OwnB B w2 v2 (zy ++ [y])) (hg : (wr.alloc o).grownBy w2 vy.ownBlock) :
    Fil w P M zx (zy ++ [y]) (w2.setCell ⟨M, 1, none⟩ v2) vx v2 B := by
  have hb := h.oy.base
  have hM : M < wr.heap.size := (Array.getElem?_eq_some_iff.1 h.m).1
  have hP := h.PM
  have hW := h.Pw
  have hmb := h.mb
  have m2 : w2.heap[M]? = some (.cells #[vx, vy] 79 (0, 0)) := (hg.block M (by simp; omega) (fun e => by have := hb M e.symm; omega)).trans ((Below.heap_alloc _ _ _ hM).trans h.m)
  have p2 : w2.heap[P]? = _ := (hg.block P (by simp; omega) (fun e => by have := hb P e.symm; omega)).trans ((Below.heap_alloc _ _ _ (by omega)).trans h.p)
  have u1 : Up (One M) w2 (w2.setCell ⟨M, 1, none⟩ v2) := (Up.refl _ _).setCell (p := ⟨M, 1, none⟩) (.inr (show One M M from rfl)) _
  have ox2 : OwnB (M + 1) w2 vx zx := by
    refine ⟨World.ownsRow.kept (h.ox.alloc o).own hg ?_, h.ox.small⟩
    cases e : vx.ownBlock with
    | none => exact .inl rfl
    | some q => exact .inr fun e2 => by have := h.xb q e; have := hb q e2.symm; omega
  have hs := hg.size
  refine ⟨ox2.up u1 (fun k hk e => by unfold One at e; omega), hown.up u1 (fun k hk e => by unfold One at e; omega), hmb, ?_, h.xb, ?_, (Below.heap_setCell _ _ _ _ (by show P ≠ M; omega)).trans p2, ?_, hP, hW⟩
  · have := h.bw
    simp at hs ⊢
    omega
  · have := heap_set_same m2 1 v2
    simpa using this
  · exact ((h.up.alloc o).grown hg fun k hk => by have := hb k hk; omega).setCell (p := ⟨M, 1, none⟩) (.inl (by show _ ≤ M; omega)) _
theorem Fil.afterX {w wr w2 : World} {P M B : Nat} {zx zy : List Nat} {vx vy : Value} {o : Obj} (h : Fil w P M zx zy wr vx vy B) (hg : (wr.alloc o).grownBy w2 vx.ownBlock) : w2.heap[M]? = some (.cells #[vx, vy] 79 (0, 0)) := by
  have hM : M < wr.heap.size := (Array.getElem?_eq_some_iff.1 h.m).1
  exact (hg.block M (by simp; omega) (fun e => by have := h.ox.base M e.symm; omega)).trans ((Below.heap_alloc _ _ _ hM).trans h.m)
theorem Fil.afterY {w wr w2 : World} {P M B : Nat} {zx zy : List Nat} {vx vy : Value} {o : Obj} (h : Fil w P M zx zy wr vx vy B) (hg : (wr.alloc o).grownBy w2 vy.ownBlock) : w2.heap[M]? = some (.cells #[vx, vy] 79 (0, 0)) := by
  have hM : M < wr.heap.size := (Array.getElem?_eq_some_iff.1 h.m).1
  exact (hg.block M (by simp; omega) (fun e => by have := h.oy.base M e.symm; have := h.mb; omega)).trans ((Below.heap_alloc _ _ _ hM).trans h.m)
theorem cell_of2 {w : World} {M : Nat} {x y : Value} {t : TypeId} (h : w.heap[M]? = some (.cells #[x, y] t (0, 0))) : w.cell? ⟨M, 0, none⟩ = some x ∧ w.cell? ⟨M, 1, none⟩ = some y ∧ ∀ j, w.frozen? ⟨M, j, none⟩ = false := by
  refine ⟨by simp only [World.cell?, h]; rfl, by simp only [World.cell?, h]; rfl, fun j => by simp [World.frozen?, h]⟩
theorem OwnB.shape2 {base : Nat} {w : World} {v : Value} {z : List Nat} (h : OwnB base w v z) : ∃ a n cap, v = .slice a n cap := by
  rcases h.own.2 with ⟨e, _⟩ | ⟨g, cap, cur, e, _⟩
  · exact ⟨_, _, _, e⟩
  · exact ⟨_, _, _, e⟩
theorem info_c2 : (Tryz.prog.info? 79).map (·.size) = some 2 := by kernel_rfl

/-- A new row of bytes. -/
theorem LR.mk1 {w0 w : World} {FS : List Nat} (h : LS w0 FS w) (z : List Nat) (hz : ∀ x ∈ z, x < 256) : LR FS (w.alloc (.cells (bys z) 5)) w.heap.size 0 z := by
  have hb := Blk.new w z hz
  have hr := hb.row 0 z.length (by omega)
  rw [List.drop_zero, List.take_of_length_le (Nat.le_refl _)] at hr
  exact ⟨hr, hb.lt, h.lt (Nat.le_refl _)⟩
def awS (t : Nat) : Option (List Nat) := if t = 1 then some [0] else if t = 2 then some [142] else none
def awT (t : Nat) : Option (List Nat) := if t = 2 then some [142] else none
def awD (t : Nat) : List Nat := if t = 0 then [1] else [0]
theorem aw_enc : acrZ 2 1 (coefZ 2 1 [0, 1] [2]) awD 0 = [142] := by decide +kernel
theorem awS_tl : 2 ≤ (Tl awS (2 + 1)).length := by decide
theorem awT_tl : (Tl awT (2 + 1)).length < 2 := by decide
theorem aw_dst : Dst ([0, 1] ++ [2]) := by
  intro i j hi hj e
  have hi : i < 3 := hi
  have hj : j < 3 := hj
  rcases (show i = 0 ∨ i = 1 ∨ i = 2 by omega) with rfl | rfl | rfl <;> rcases (show j = 0 ∨ j = 1 ∨ j = 2 by omega) with rfl | rfl | rfl <;> first | rfl | (revert e; decide)
/-- A new row of shards. -/
theorem LL.mk1 {w0 w : World} {FS : List Nat} {n : Nat} {S : Nat → Option (List Nat)} (h : LS w0 FS w) (vs : Array Value) (t : TypeId) (hv : ∀ i, i < n → ∃ v, vs[i]? = some v ∧ Shd FS w v (S i)) : LL FS (w.alloc (.cells vs t)) w.heap.size 0 n S := by
  have m := h.alloc (.cells vs t)
  refine ⟨fun i hi => ?_, by simp, h.lt (Nat.le_refl _)⟩
  obtain ⟨v, e, hs⟩ := hv i hi
  exact ⟨v, by rw [Nat.zero_add, World.cell?_alloc_new]; exact e, hs.nxt m⟩
theorem aw_right {M : GfM.Mx} (hM : GfM.run 2 (GfM.beside 2 (cz 2 (pickZ 2 2 (unitZ 2 ++ coefZ 2 1 [0, 1] [2]) fun i => (Tl awS (2 + 1)).getD i 0))) 2 = some M) : decZ 2 1 1 (coefZ 2 1 [0, 1] [2]) awS M 0 = [1] := by
  refine (dec_right (D := awD) stack_small (fun i _ => by unfold awD; split <;> rfl) (fun i j => ?_) awS_tl (fun t ht z e => ?_) hM (by omega)).trans rfl
  · unfold awD
    split
    · exact small_getD (by decide) _
    · exact small_getD (by decide) _
  · have ht : t < 3 := ht
    match t, ht with
    | 0, _ => cases e
    | 1, _ => cases e; rfl
    | 2, _ => cases e; exact aw_enc.symm
theorem mdX_small (at_ : Int) (k : Nat) : ∀ i, (mdX at_ k).getD i 0 < 256 := small_getD (tab_small fun _ => mdB_lt _ _)
theorem mdY_small (at_ : Int) (k r : Nat) : ∀ i, (mdY at_ k r).getD i 0 < 256 := small_getD (tab_small fun _ => mdB_lt _ _)
theorem codeL {w0 w : World} {FS : List Nat} {F V gx cx gy cy k r : Nat} {at_ : Int} (h : LS w0 FS w) (hF : F ∈ FS) (hc : LC FS w V gx cx gy cy k r (mdX at_ k) (mdY at_ k r)) (k1 : 1 ≤ k) (k14 : k ≤ 14) (r1 : 1 ≤ r) (r4 : r ≤ 4) :
    Calls Tryz.prog 31 #[.pointer (some ⟨F, 0, none⟩), .slice (some ⟨gx, 0, none⟩) k cx, .slice (some ⟨gy, 0, none⟩) r cy] w
      fun e w' => ∃ c pp pq sp sq, e = .returned (.tuple #[.pointer (some ⟨c, 0, none⟩), .int .i64 0]) ∧ CS w0 FS w' V gx cx gy cy c F k r pp pq sp sq at_ ∧ Nxt FS w w' := by
  refine (new_code FS w0 w F gx 0 gy 0 k r cx cy (mdX at_ k) (mdY at_ k r) h hF hc.x hc.y (mdX_length _ _) (mdY_length _ _ _) k1 k14 r1 r4 (md_dst (by omega))).mono ?_
  rintro e w' ⟨c, pp, pq, sp, sq, h1, h2, h3⟩
  exact ⟨c, pp, pq, sp, sq, h1, ⟨h.nxt h3, hc.nxt h3, h2⟩, h3⟩
theorem md_regular {k r : Nat} {at_ : Int} (S : Nat → Option (List Nat)) (h : k + r ≤ 18) (hk : k ≤ (Tl S (k + r)).length) :
    ∃ M, GfM.run k (GfM.beside k (cz k (pickZ k k (unitZ k ++ coefZ k r (mdX at_ k) (mdY at_ k r)) fun i => (Tl S (k + r)).getD i 0))) k = some M :=
  Tl_regular S (mdX_length _ _) (mdY_length _ _ _) (md_dst h) (mdX_small _ _) (mdY_small _ _ _) hk
/-- Shards that are appended one by one. -/
def LA (FS : List Nat) (base : Nat) (w : World) (v : Value) (i : Nat) (S : Nat → Option (List Nat)) : Prop :=
  ∃ ys : List Value, OwnV 22 base w v ys ∧ ys.length = i ∧ ∀ t, t < i → ∃ u, ys[t]? = some u ∧ Shd FS w u (S t)
theorem Shd.grow0 {FS : List Nat} {w w2 : World} {u : Value} {x : Option (List Nat)} (h : Shd FS w u x) (h0 : x = none ∨ x = some []) (hs : w.heap.size ≤ w2.heap.size) : Shd FS w2 u x := by
  rcases h0 with rfl | rfl
  · exact h
  · obtain ⟨b, o, cap, e, r⟩ := h
    exact ⟨b, o, cap, e, ⟨fun i hi => absurd hi (Nat.not_lt_zero _), r.row.small⟩, Nat.lt_of_lt_of_le r.lt hs, r.b⟩
theorem SlN.of {w : World} {a : Option Addr} {len cap : Nat} {zs : List Int} (h : CameIn w a len cap zs) : ∃ z, SlN w a len z := by
  rcases came_in h with rfl | ⟨b, o, z, rfl, rfl, r, hb, hm⟩
  · exact ⟨[], rfl, .inl rfl, by omega⟩
  · exact ⟨z, rfl, .inr ⟨b, o, rfl, hb, r⟩, hm⟩
theorem dat_small {L : Nat} {z : List Nat} (hz : ∀ i, z.getD i 0 < 256) (i j : Nat) : (dat L z i).getD j 0 < 256 := small_getD (tab_small fun j => by
  split
  · exact hz _
  · omega) j
/-- What was laid after W is as it was. -/
theorem Mid.keepA {B base n : Nat} {W w w' : World} {u1 u2 vB : Value} {xs ys x0 : List Value} {a : Addr} {y : Value} (h : Mid B base n W u1 u2 u1 vB xs ys w) (h0 : OwnV 22 base W u1 x0) (g2 : w.grownBy w' u1.ownBlock) (hb : W.heap.size ≤ a.block) (hc : w.cell? a = some y) : w'.cell? a = some y :=
  ((Up.ofg g2).cell (lt_of_cell hc) fun e => by have := (World.ownsRow.lt h0 _ e.symm).2; omega).trans hc
theorem Mid.keepB {B base n m : Nat} {W w w' : World} {u1 u2 vA : Value} {xs ys y0 : List Value} {a : Addr} {y : Value} (h : Mid B base n W u1 u2 vA u2 xs ys w) (h0 : OwnS base W u2 m y0) (g2 : w.grownBy w' u2.ownBlock) (hb : W.heap.size ≤ a.block) (hc : w.cell? a = some y) : w'.cell? a = some y :=
  ((Up.ofg g2).cell (lt_of_cell hc) fun e => by have := (World.ownsRow.lt h0 _ e.symm).2; omega).trans hc
/-- All shards, one of them turned. -/
def odd (R : Nat → List Nat) (i : Nat) (t : Nat) : List Nat := if t = i then (R i).set 3 ((R i).getD 3 0 ^^^ 5) else R t
theorem Row.put {w : World} {q j v : Nat} {y : List Nat} (h : Row w q 0 y) (hj : j < y.length) (hv : v < 256) : Row (w.setCell ⟨q, j, none⟩ (.int .u8 v)) q 0 (y.set j v) := by
  have hc := h.cells j hj
  rw [Nat.zero_add] at hc
  refine ⟨fun i hi => ?_, fun i => ?_⟩
  · rw [List.length_set] at hi
    rw [Nat.zero_add, getD_set _ _ _ _ hj]
    by_cases e : i = j
    · subst e
      rw [if_pos rfl]
      exact World.cell?_setCell_same _ _ _ hc
    · rw [if_neg e, World.cell?_setCell_other _ _ _ _ (by intro e2; have := congrArg Addr.off e2; simp at this; omega)]
      have := h.cells i hi
      rw [Nat.zero_add] at this
      exact this
  · rw [getD_set _ _ _ _ hj]
    split
    · exact hv
    · exact h.small i
theorem odd_length {R : Nat → List Nat} {i : Nat} (h : ∀ t, (R t).length = 9) (t : Nat) : (odd R i t).length = 9 := by
  unfold odd
  split
  · rw [List.length_set]; exact h i
  · exact h t
theorem odd_small {R : Nat → List Nat} {i : Nat} (hl : ∀ t, (R t).length = 9) (h : ∀ t u, (R t).getD u 0 < 256) (t u : Nat) : (odd R i t).getD u 0 < 256 := by
  unfold odd
  split
  · rw [getD_set _ _ _ _ (by rw [hl]; omega)]
    split
    · exact GfM.xor_lt (h i 3) (by omega)
    · exact h i u
  · exact h t u
theorem odd_ne {R : Nat → List Nat} {i : Nat} (hl : ∀ t, (R t).length = 9) : (odd R i i).getD 3 0 ≠ (R i).getD 3 0 := by
  unfold odd
  rw [if_pos rfl, getD_set _ _ _ _ (by rw [hl]; omega), if_pos rfl]
  intro e
  have e2 : (R i).getD 3 0 ^^^ ((R i).getD 3 0 ^^^ 5) = (R i).getD 3 0 ^^^ (R i).getD 3 0 := by rw [e]
  rw [← Nat.xor_assoc, Nat.xor_self, Nat.zero_xor] at e2
  omega
theorem odd_else {R : Nat → List Nat} {i t : Nat} (h : t ≠ i) : odd R i t = R t := by unfold odd; rw [if_neg h]
/-- What is turned does not agree. -/
theorem odd_bad {k r i : Nat} {Z : List Nat} {R : Nat → List Nat} (hl : ∀ t, (R t).length = 9) (hs : ∀ t u, (R t).getD u 0 < 256) (hc : ∀ j, acrZ k 9 Z R j = R (k + j)) (hi : i < k + r) (r1 : 1 ≤ r) (hz : ∀ q j, q < k → j < r → Z.getD (j * k + q) 0 ≠ 0) :
    ∃ j, j < r ∧ acrZ k 9 Z (odd R i) j ≠ odd R i (k + j) := by
  rcases Nat.lt_or_ge i k with h | h
  · refine ⟨0, by omega, ?_⟩
    rw [odd_else (by omega), ← hc]
    exact acr_turn h (show 3 < 9 by omega) (fun s _ hne => by rw [odd_else hne]) (odd_ne hl) hs (odd_small hl hs) (hz i 0 h (by omega))
  · refine ⟨i - k, by omega, ?_⟩
    rw [show k + (i - k) = i by omega]
    intro e
    have e1 : acrZ k 9 Z (odd R i) (i - k) = acrZ k 9 Z R (i - k) := acrZ_congr fun s hsk => odd_else (by omega)
    rw [e1, hc, show k + (i - k) = i by omega] at e
    exact odd_ne (i := i) hl (by rw [← e])
theorem fine_all {R : Nat → List Nat} {n L : Nat} (h : ∀ t, (R t).length = L) : Fine (fun t => some (R t)) n L := fun t _ z e => by cases e; exact h t
theorem fine_out {S : Nat → Option (List Nat)} {n L i : Nat} (h : Fine S n L) : Fine (out1 S i) n L := fun t ht z e => by
  unfold out1 at e
  split at e
  · cases e
  · exact h t ht z e

/-- A slice of ints that came in. -/
structure SlI (w : World) (b : Option Addr) (m : Nat) (f : Nat → Int) : Prop where
  row : m = 0 ∨ ∃ g o, b = some ⟨g, o, none⟩ ∧ g < w.heap.size ∧ RowI w g o m f
  le : m ≤ 9223372036854775807
theorem SlI.nxt {w w' : World} {b : Option Addr} {m : Nat} {f : Nat → Int} (h : SlI w b m f) (u : Up Nul w w') : SlI w' b m f := by
  refine ⟨?_, h.le⟩
  rcases h.row with e | ⟨g, o, e, l, r⟩
  · exact .inl e
  · exact .inr ⟨g, o, e, Nat.lt_of_lt_of_le l u.size, r.up u l id⟩
/-- What the row's step knows of a slice of ints. -/
abbrev CameI (w : World) (a : Option Addr) (len cap : Nat) (zs : List Int) : Prop :=
  (a = none ∧ len = 0 ∧ cap = 0 ∧ zs = []) ∨
  ∃ x, a = some x ∧ len ≤ cap ∧ cap ≤ maxLen ∧ zs.length = cap ∧ (∀ i, i < zs.length → w.cell? (x.add i) = some (.int .i64 (zs.getD i 0))) ∧ ∀ n ∈ zs, (Lit.int .i64 n).wf = true
theorem SlI.of {w : World} {a : Option Addr} {len cap : Nat} {zs : List Int} (h : CameI w a len cap zs) : ∃ f, SlI w a len f := by
  rcases h with ⟨_, h, _⟩ | ⟨x, rfl, hl, hm, hz, hc, hw⟩
  · exact ⟨fun _ => 0, .inl h, by omega⟩
  · unfold maxLen at hm
    by_cases h0 : len = 0
    · exact ⟨fun _ => 0, .inl h0, by omega⟩
    · obtain ⟨b, o, spot⟩ := x
      have hc0 := hc 0 (by omega)
      have hs : spot = none := by simpa [Addr.add] using World.cell?_spot hc0
      subst hs
      refine ⟨fun i => zs.getD i 0, .inr ⟨b, o, rfl, lt_of_cell hc0, fun i hi => ?_⟩, by omega⟩
      have := hc i (by omega)
      have ea : Addr.add ⟨b, o, none⟩ i = ⟨b, o + i, none⟩ := by
        by_cases h0 : i = 0
        · subst h0; simp [Addr.add]
        · simp [Addr.add, h0]
      rw [ea] at this
      exact this
end Go.Proofs.YtmaffnadmfphpaaGreat
