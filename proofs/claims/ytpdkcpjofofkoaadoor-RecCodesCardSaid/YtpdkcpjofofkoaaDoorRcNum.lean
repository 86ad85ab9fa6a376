/- A source's numbers: 'number', 'loc', 'table'. -/
import Derived.Test.YtpdkcpjofofkoaaDoorRcNext
import Derived.Laws.BitsLemmas
namespace Go.Proofs.YtpdkcpjofofkoaaDoor
open Go.RowKit
set_option linter.unusedVariables false

def fold8 (z : List Nat) : Nat := z.foldl (fun x c => x * 256 + c) 0
theorem fold8_next {z : List Nat} {t : Nat} (h : t < z.length) : fold8 (z.take (t + 1)) = fold8 (z.take t) * 256 + z[t] := by
  unfold fold8
  rw [List.take_succ_eq_append_getElem h, List.foldl_append]
  rfl
theorem fold8_lt {z : List Nat} (hz : ∀ x ∈ z, x < 256) : ∀ t, t ≤ z.length → fold8 (z.take t) < 256 ^ t := by
  intro t
  induction t with
  | zero => intro _; simp [fold8]
  | succ t ih =>
    intro h
    have h1 := ih (by omega)
    have h2 := hz _ (List.getElem_mem (show t < z.length by omega))
    rw [fold8_next (by omega), Nat.pow_succ]
    omega
/-- The number that the next m bytes are. -/
def num (m : Nat) (z : List Nat) : Nat := fold8 (nx m z)
theorem i64_or8 {x y : Int} (h0 : 0 ≤ x) (h1 : x < 16777216) (h3 : 0 ≤ y) (h4 : y < 256) : bits .or .i64 (x * 256) y = x * 256 + y :=
  bits_join .i64 63 (by decide) (fun n k0 k1 => IntWalk.i64_in _ (by omega)) 8 (x * 256) y (by omega) (by omega) (by omega) h3 (by omega) (by omega)
theorem num_lt4 {z : List Nat} (hz : ∀ x ∈ z, x < 256) {m : Nat} (hm : m ≤ 4) : num m z < 4294967296 := by
  have := fold8_lt (nx_small (m := m) hz) m (by rw [nx_length]; exact Nat.le_refl _)
  rw [List.take_of_length_le (by rw [nx_length]; exact Nat.le_refl _)] at this
  have h2 : 256 ^ m ≤ 256 ^ 4 := Nat.pow_le_pow_right (by omega) hm
  unfold num
  omega
theorem num_lt1 {z : List Nat} (hz : ∀ x ∈ z, x < 256) : num 1 z < 256 := by
  have := fold8_lt (nx_small (m := 1) hz) 1 (by rw [nx_length]; exact Nat.le_refl _)
  rw [List.take_of_length_le (by rw [nx_length]; exact Nat.le_refl _)] at this
  unfold num
  omega
set_option maxHeartbeats 1000000 in
theorem number_any (B : Nat) (w : World) (q m : Nat) (b : List Nat) (h : So B w q b) (hm : m ≤ 4) (h8 : ∀ x ∈ b, x < 256) :
    Calls Tryd.prog 46 #[.pointer (some ⟨q, 0, none⟩), .int .i64 (m : Nat)] w fun e w' => e = .returned (.int .i64 (num m b : Nat)) ∧ So B w' q (b.drop m) ∧ Up (One q) w w' := by
  have HN := hid (next_any B w q m b h (by omega))
  have HM := hid hm
  have H8 := hid h8
  clear h hm h8
  go_enter Tryd.func46, Tryd.ntmps46
  go_wp2_with fail
  refine HN.out.mono ?_
  rintro e w1 ⟨g, rfl, hb, hs, hu, hg⟩
  have HB := hid hb
  have HS := hid hs
  have HU := hid hu
  obtain ⟨y, Y⟩ : ∃ y, Hid (nx m b = y) := ⟨_, rfl⟩
  have HL : Hid (y.length = m) := by show _ = _; rw [← Y.out]; exact nx_length _ _
  have HY : Hid (∀ x ∈ y, x < 256) := by show ∀ x ∈ y, x < 256; rw [← Y.out]; exact nx_small H8.out
  rw [Y.out] at HB
  clear hb hs hu hg HN
  go_wp2_with fail
  go_loop [5, 7, 12] (fun n _ i => ∃ t : Nat, t ≤ m ∧ i = .int .i64 (t : Nat) ∧ n = .int .i64 (fold8 (y.take t) : Nat)) (fun _ _ i => m - (intOf i).toNat)
  case atStart => exact ⟨0, Nat.zero_le _, rfl, rfl⟩
  case round =>
    obtain ⟨t, ht, rfl, rfl⟩ := hrel
    have hm4 := HM.out
    have i0 : (0 : Int) ≤ (t : Int) := by omega
    have i9 : (t : Int) ≤ 4 := by omega
    by_cases hlt : t < m
    · have htl : t < y.length := by rw [HL.out]; exact hlt
      have x1 := HB.out.cell t htl
      have hy := HY.out _ (List.getElem_mem htl)
      have HN := hid (fold8_next htl)
      have hfl := fold8_lt HY.out t (by omega)
      have h3 : 256 ^ t ≤ 256 ^ 3 := Nat.pow_le_pow_right (by omega) (by omega)
      rw [List.getD_eq_getElem?_getD, List.getElem?_eq_getElem htl, Option.getD_some] at x1
      generalize y[t] = c at x1 hy HN
      generalize fold8 (y.take t) = f at HN hfl ⊢
      have hf : f < 16777216 := by omega
      clear hfl h3 htl
      have i2 : (t : Int) < (m : Int) := by omega
      have HT := hid hlt
      have j1 := i64_or8 (x := (f : Int)) (y := (c : Int)) (by omega) (by omega) (by omega) (by omega)
      have j2 : (f : Int) * 256 < 4294967296 := by omega
      have j3 : (0 : Int) ≤ (f : Int) * 256 := by omega
      have j5 : wrap64 (c : Int) = (c : Int) := by rw [← IntWalk.i64_left]; exact IntWalk.i64_in _ (by omega)
      clear hy hf ht hlt
      go_wp2_with fail
      go_round
      case rel => exact ⟨t + 1, HT.out, by go_num, by rw [HN.out]; simp⟩
      case measure => have := HT.out; simp [intOf]; omega
    · obtain rfl : t = m := by omega
      have HE : Hid (fold8 (y.take t) = num t b) := by show _ = _; rw [List.take_of_length_le (by rw [HL.out]; exact Nat.le_refl _), ← Y.out]; rfl
      rw [HE.out]
      clear ht hlt hm4
      go_wp2
      go_ret
      exact ⟨rfl, HS.out, HU.out⟩
theorem small_drop {z : List Nat} (h : ∀ x ∈ z, x < 256) (k : Nat) : ∀ x ∈ z.drop k, x < 256 := fun x hx => h x (List.mem_of_mem_drop hx)
theorem heap3s {w : World} {g : Nat} {T : TypeId} {fr : Nat × Nat} {c0 c1 c2 : Value} (h : w.heap[g]? = some (.cells #[c0, c1, c2] T fr)) (v0 v1 v2 : Value) :
    (((w.setCell ⟨g, 0, none⟩ v0).setCell ⟨g, 1, none⟩ v1).setCell ⟨g, 2, none⟩ v2).heap[g]? = some (.cells #[v0, v1, v2] T fr) := by
  rw [heap_set_same (heap_set_same (heap_set_same h 0 v0) 1 v1) 2 v2]
  rfl
theorem heap6s {w : World} {g : Nat} {T : TypeId} {fr : Nat × Nat} {c0 c1 c2 c3 c4 c5 : Value} (h : w.heap[g]? = some (.cells #[c0, c1, c2, c3, c4, c5] T fr)) (v0 v1 v2 v3 v4 v5 : Value) :
    ((((((w.setCell ⟨g, 0, none⟩ v0).setCell ⟨g, 1, none⟩ v1).setCell ⟨g, 2, none⟩ v2).setCell ⟨g, 3, none⟩ v3).setCell ⟨g, 4, none⟩ v4).setCell ⟨g, 5, none⟩ v5).heap[g]? = some (.cells #[v0, v1, v2, v3, v4, v5] T fr) := by
  rw [heap_set_same (heap_set_same (heap_set_same (heap_set_same (heap_set_same (heap_set_same h 0 v0) 1 v1) 2 v2) 3 v3) 4 v4) 5 v5]
  rfl
theorem info_loc3 : (Tryd.prog.info? 31).map (·.size) = some 3 := by kernel_rfl
theorem info_tab6 : (Tryd.prog.info? 25).map (·.size) = some 6 := by kernel_rfl
/-- The Loc that the next six bytes are. -/
def locOf (b : List Nat) : Lo := ⟨(num 1 b : Nat), (num 1 (b.drop 1) : Nat), (num 4 (b.drop 2) : Nat)⟩
/-- A source goes on: only its own block turns, of what was there. -/
structure Sg (B : Nat) (w : World) (q : Nat) (b : List Nat) (w' : World) : Prop where
  so : So B w' q b
  up : Up (One q) w w'
theorem Sg.nxt {B : Nat} {w w' w'' : World} {q : Nat} {b : List Nat} (h : Sg B w q b w') (u : Up Nul w' w'') : Sg B w q b w'' := ⟨h.so.nxt u, h.up.trans u.nul⟩
theorem Sg.go {B : Nat} {w w' w'' : World} {q : Nat} {b b' : List Nat} (h : Sg B w q b w') (s : So B w'' q b') (u : Up (One q) w' w'') : Sg B w q b' w'' := ⟨s, h.up.trans u⟩
/-- A cell of a block that is new since w is set. -/
theorem Sg.set {B : Nat} {w w' : World} {q p : Nat} {b : List Nat} (h : Sg B w q b w') (hp : w.heap.size ≤ p) (hB : B ≤ w.heap.size) (hq : p ≠ q) (i : Nat) (v : Value) : Sg B w q b (w'.setCell ⟨p, i, none⟩ v) :=
  ⟨h.so.keep ((Up.refl (One p) w').put rfl i v) fun k _ e => by have e : k = p := e; subst e; exact ⟨by omega, hq⟩, h.up.setCell (.inl hp) v⟩
/-- A block that is none of the source's is as it was. -/
theorem Sg.blk {B : Nat} {w w' : World} {q p : Nat} {b : List Nat} {o : Obj} (h : Up (One q) w w') (hp : w.heap[p]? = some o) (hq : p ≠ q) : w'.heap[p]? = some o :=
  (h.block p (by rcases Nat.lt_or_ge p w.heap.size with h | h; exact h; rw [Array.getElem?_eq_none h] at hp; cases hp) hq).trans hp
set_option maxHeartbeats 1000000 in
theorem loc_any (B : Nat) (w : World) (q : Nat) (b : List Nat) (h : So B w q b) (hB : B ≤ w.heap.size) (h8 : ∀ x ∈ b, x < 256) :
    Calls Tryd.prog 48 #[.pointer (some ⟨q, 0, none⟩)] w fun e w' => e = .returned (lov (locOf b)) ∧ Sg B w q (b.drop 6) w' := by
  obtain ⟨W0, hW0⟩ : ∃ W, W = w.alloc (.cells #[.int .i64 0, .int .i64 0, .int .i64 0] 31) := ⟨_, rfl⟩
  have U0 : Up Nul w W0 := by rw [hW0]; exact (Up.refl Nul w).alloc _
  have hp : W0.heap[w.heap.size]? = some (.cells #[.int .i64 0, .int .i64 0, .int .i64 0] 31 (0, 0)) := by rw [hW0]; exact heap_alloc_new _ _
  have hq := h.lt
  have HS := hid (Sg.mk (h.nxt U0) U0.nul)
  obtain ⟨p, P⟩ : ∃ p, Hid (w.heap.size = p) := ⟨_, rfl⟩
  have HPW : Hid (w.heap.size ≤ p ∧ B ≤ w.heap.size) := ⟨by rw [P.out]; exact Nat.le_refl _, hB⟩
  have HPQ : Hid (p ≠ q) := by show p ≠ q; rw [← P.out]; omega
  rw [P.out] at hp
  have HP := hid hp
  -- the numbers, by letters
  obtain ⟨b1, B1⟩ : ∃ x, Hid (b.drop 1 = x) := ⟨_, rfl⟩
  obtain ⟨b2, B2⟩ : ∃ x, Hid (b1.drop 1 = x) := ⟨_, rfl⟩
  obtain ⟨b3, B3⟩ : ∃ x, Hid (b2.drop 4 = x) := ⟨_, rfl⟩
  obtain ⟨n1, N1⟩ : ∃ x, Hid (num 1 b = x) := ⟨_, rfl⟩
  obtain ⟨n2, N2⟩ : ∃ x, Hid (num 1 b1 = x) := ⟨_, rfl⟩
  obtain ⟨n3, N3⟩ : ∃ x, Hid (num 4 b2 = x) := ⟨_, rfl⟩
  have HC1 : Hid (∀ W, So B W q b → Calls Tryd.prog 46 #[.pointer (some ⟨q, 0, none⟩), .int .i64 1] W fun e w' => e = .returned (.int .i64 (n1 : Nat)) ∧ So B w' q b1 ∧ Up (One q) W w') := fun W s => by
    have := number_any B W q 1 b s (by omega) h8
    rw [N1.out, B1.out] at this
    exact this
  have HC2 : Hid (∀ W, So B W q b1 → Calls Tryd.prog 46 #[.pointer (some ⟨q, 0, none⟩), .int .i64 1] W fun e w' => e = .returned (.int .i64 (n2 : Nat)) ∧ So B w' q b2 ∧ Up (One q) W w') := fun W s => by
    have := number_any B W q 1 b1 s (by omega) (by rw [← B1.out]; exact small_drop h8 1)
    rw [N2.out, B2.out] at this
    exact this
  have HC3 : Hid (∀ W, So B W q b2 → Calls Tryd.prog 46 #[.pointer (some ⟨q, 0, none⟩), .int .i64 4] W fun e w' => e = .returned (.int .i64 (n3 : Nat)) ∧ So B w' q b3 ∧ Up (One q) W w') := fun W s => by
    have := number_any B W q 4 b2 s (by omega) (by rw [← B2.out, ← B1.out]; exact small_drop (small_drop h8 1) 1)
    rw [N3.out, B3.out] at this
    exact this
  have HE : Hid (lov (locOf b) = .agg #[.int .i64 (n1 : Nat), .int .i64 (n2 : Nat), .int .i64 (n3 : Nat)]) := by
    show Value.agg #[.int .i64 ((num 1 b : Nat) : Int), .int .i64 ((num 1 (b.drop 1) : Nat) : Int), .int .i64 ((num 4 (b.drop 2) : Nat) : Int)] = _
    rw [show b.drop 2 = (b.drop 1).drop 1 by rw [List.drop_drop], B1.out, B2.out, N1.out, N2.out, N3.out]
  have HB3 : Hid (b.drop 6 = b3) := by show _ = _; rw [← B3.out, ← B2.out, ← B1.out, List.drop_drop, List.drop_drop]
  rw [HE.out, HB3.out]
  clear h h8 U0 hp hq hB B1 B2 B3 N1 N2 N3 HE HB3
  go_enter Tryd.func48, Tryd.ntmps48
  go_wp2_with fail
  rw [← hW0]
  clear hW0
  rw [P.out]
  refine (HC1.out W0 HS.out.so).mono ?_
  rintro e w1 ⟨rfl, s1, u1⟩
  have HS1 := hid (HS.out.go s1 u1)
  have HP1 := hid (Sg.blk (B := B) (b := b) u1 HP.out HPQ.out)
  clear s1 u1 HS HP HC1
  go_wp2_with fail
  refine (HC2.out w1 HS1.out.so).mono ?_
  rintro e w2 ⟨rfl, s2, u2⟩
  have HS2 := hid (HS1.out.go s2 u2)
  have HP2 := hid (Sg.blk (B := B) (b := b) u2 HP1.out HPQ.out)
  clear s2 u2 HS1 HP1 HC2
  go_wp2_with fail
  refine (HC3.out w2 HS2.out.so).mono ?_
  rintro e w3 ⟨rfl, s3, u3⟩
  have HS3 := hid (HS2.out.go s3 u3)
  have hp3 := Sg.blk (B := B) (b := b) u3 HP2.out HPQ.out
  have x0 : w3.cell? ⟨p, 0, none⟩ = some (.int .i64 0) := by simp [World.cell?, hp3]
  have x1 : w3.cell? ⟨p, 1, none⟩ = some (.int .i64 0) := by simp [World.cell?, hp3]
  have x2 : w3.cell? ⟨p, 2, none⟩ = some (.int .i64 0) := by simp [World.cell?, hp3]
  have f0 : w3.frozen? ⟨p, 0, none⟩ = false := by simp [World.frozen?, hp3]
  have f1 : w3.frozen? ⟨p, 1, none⟩ = false := by simp [World.frozen?, hp3]
  have f2 : w3.frozen? ⟨p, 2, none⟩ = false := by simp [World.frozen?, hp3]
  have HP3 := hid hp3
  clear s3 u3 HS2 HP2 hp3 HC3
  go_wp2_with fail
  refine bodyPost_ret (results_cell_row (P := Tryd.prog) (ty := 31) rfl _ _ p _ _ _ _ rfl (heap3s HP3.out _ _ _) Tryd.underlying31 rfl info_loc3) rfl ?_
  exact ⟨rfl, ((HS3.out.set HPW.out.1 HPW.out.2 HPQ.out 0 _).set HPW.out.1 HPW.out.2 HPQ.out 1 _).set HPW.out.1 HPW.out.2 HPQ.out 2 _⟩
end Go.Proofs.YtpdkcpjofofkoaaDoor
