/- 'alike' of stripes. -/
import Derived.Test.YtmaffnadmfphpaaGreatConvRows
namespace Go.Proofs.YtmaffnadmfphpaaGreat
open Go.RowKit
set_option linter.unusedVariables false

theorem torn_yes (n c : Nat) (a : Option Addr) (w : World) (h : n ≠ 6) :
    Calls Tryz.prog 49 #[.slice a n c] w fun e w' => e = .returned (.bool true) ∧ w' = w := by
  have e2 : ((n : Int) == 6) = false := beq_eq_false_iff_ne.2 (by omega)
  have e3 : ((n : Int) != 6) = true := by rw [bne, e2]; rfl
  clear h
  go_enter Tryz.func49, Tryz.ntmps49
  go_wp2
  go_ret
  exact ⟨rfl, rfl⟩
theorem torn_no (n c : Nat) (a : Option Addr) (w : World) (h : n = 6) :
    Calls Tryz.prog 49 #[.slice a n c] w fun e w' => e = .returned (.bool false) ∧ w' = w := by
  have e2 : ((n : Int) == 6) = true := beq_iff_eq.2 (by omega)
  have e3 : ((n : Int) != 6) = false := by rw [bne, e2]; rfl
  clear h
  go_enter Tryz.func49, Tryz.ntmps49
  go_wp2
  go_ret
  exact ⟨rfl, rfl⟩
set_option maxHeartbeats 400000 in
theorem torn_index (g o n cap : Nat) (l : Nat → Nat) (w : World) (hl : RowL w g o n l) (hn : n ≤ 1000) :
    Calls Tryz.prog 72 #[.slice (some ⟨g, o, none⟩) n cap, .func (.func 49) #[] #[]] w
      fun e w' => (∃ x : Int, e = .returned (.int .i64 x) ∧ ((0 ≤ x ∧ ∃ i, i < n ∧ l i ≠ 6) ∨ (x < 0 ∧ ∀ i, i < n → l i = 6))) ∧ w' = w := by
  have HL := hid hl
  clear hl
  go_enter Tryz.func72, Tryz.ntmps72
  go_wp2
  go_loopw [8] (fun i wr => ∃ k : Nat, k ≤ n ∧ i = .int .i64 k ∧ wr = w ∧ ∀ i, i < k → l i = 6) (fun i _ => n - (intOf i).toNat)
  case atStart => exact ⟨0, by omega, rfl, rfl, fun _ h => absurd h (Nat.not_lt_zero _)⟩
  case round =>
    obtain ⟨k, hk, rfl, rfl, hg⟩ := hrel
    have HG := hid hg
    clear hg
    by_cases hlt : k < n
    · obtain ⟨a, c, hc⟩ := HL.out k hlt
      obtain ⟨x, X⟩ : ∃ x, Hid (l k = x) := ⟨_, rfl⟩
      rw [X.out] at hc
      by_cases hb : x ≠ 6
      · have HB := hid (torn_yes x c a wr hb)
        have HU : Hid (l k ≠ 6) := by show l k ≠ 6; rw [X.out]; exact hb
        clear hb
        go_wp2_with ((go_at_call 49; (with_reducible refine HB.out.mono ?_); rintro e w1 ⟨rfl, rfl⟩))
        go_ret
        exact ⟨⟨_, rfl, .inl ⟨by omega, k, hlt, HU.out⟩⟩, rfl⟩
      · have hxy : x = 6 := by omega
        have HB := hid (torn_no x c a wr hxy)
        have HU : Hid (l k = 6) := by show l k = 6; rw [X.out]; exact hxy
        clear hb hxy
        go_wp2_with ((go_at_call 49; (with_reducible refine HB.out.mono ?_); rintro e w1 ⟨rfl, rfl⟩))
        go_roundw
        case rel => exact ⟨k + 1, by omega, by go_num, trivial, fun i hi => by
          by_cases e : i = k
          · rw [e]; exact HU.out
          · exact HG.out i (by omega)⟩
        case measure => simp [intOf]; omega
    · obtain rfl : n = k := by omega
      go_wp2
      go_ret
      exact ⟨⟨_, rfl, .inr ⟨by omega, HG.out⟩⟩, rfl⟩
theorem torn_contains (g o n cap : Nat) (l : Nat → Nat) (w : World) (hl : RowL w g o n l) (hn : n ≤ 1000) :
    Calls Tryz.prog 50 #[.slice (some ⟨g, o, none⟩) n cap, .func (.func 49) #[] #[]] w
      fun e w' => ((e = .returned (.bool true) ∧ ∃ i, i < n ∧ l i ≠ 6) ∨ (e = .returned (.bool false) ∧ ∀ i, i < n → l i = 6)) ∧ w' = w := by
  have H := hid (torn_index g o n cap l w hl hn)
  clear hl hn
  go_enter Tryz.func50, Tryz.ntmps50
  go_wp2_with fail
  refine H.out.mono ?_
  rintro e w1 ⟨⟨x, rfl, ⟨h0, hb⟩ | ⟨h0, hb⟩⟩, rfl⟩
  · have HB := hid hb
    clear hb
    go_wp2
    go_ret
    exact ⟨.inl ⟨by simp, HB.out⟩, rfl⟩
  · have HB := hid hb
    have h1 : ¬ 0 ≤ x := by omega
    clear hb
    go_wp2
    go_ret
    exact ⟨.inr ⟨by simp [h1], HB.out⟩, rfl⟩
theorem odds_yes (A x0 n c : Nat) (a : Option Addr) (w : World) (hA : w.cell? ⟨A, 0, none⟩ = some (.int .i64 x0)) (h : n ≠ x0) :
    Calls Tryz.prog 51 #[.slice a n c, .pointer (some ⟨A, 0, none⟩)] w fun e w' => e = .returned (.bool true) ∧ w' = w := by
  have e2 : ((n : Int) == (x0 : Int)) = false := beq_eq_false_iff_ne.2 (by omega)
  have e3 : ((n : Int) != (x0 : Int)) = true := by rw [bne, e2]; rfl
  clear h
  go_enter Tryz.func51, Tryz.ntmps51
  go_wp2
  go_ret
  exact ⟨rfl, rfl⟩
theorem odds_no (A x0 n c : Nat) (a : Option Addr) (w : World) (hA : w.cell? ⟨A, 0, none⟩ = some (.int .i64 x0)) (h : n = x0) :
    Calls Tryz.prog 51 #[.slice a n c, .pointer (some ⟨A, 0, none⟩)] w fun e w' => e = .returned (.bool false) ∧ w' = w := by
  have e2 : ((n : Int) == (x0 : Int)) = true := beq_iff_eq.2 (by omega)
  have e3 : ((n : Int) != (x0 : Int)) = false := by rw [bne, e2]; rfl
  clear h
  go_enter Tryz.func51, Tryz.ntmps51
  go_wp2
  go_ret
  exact ⟨rfl, rfl⟩
set_option maxHeartbeats 400000 in
theorem odds_index (A x0 g o n cap : Nat) (l : Nat → Nat) (w : World) (hA : w.cell? ⟨A, 0, none⟩ = some (.int .i64 x0)) (hl : RowL w g o n l) (hn : n ≤ 1000) :
    Calls Tryz.prog 73 #[.slice (some ⟨g, o, none⟩) n cap, .func (.func 51) #[] #[.pointer (some ⟨A, 0, none⟩)]] w
      fun e w' => (∃ x : Int, e = .returned (.int .i64 x) ∧ ((0 ≤ x ∧ ∃ i, i < n ∧ l i ≠ x0) ∨ (x < 0 ∧ ∀ i, i < n → l i = x0))) ∧ w' = w := by
  have HL := hid hl
  clear hl
  go_enter Tryz.func73, Tryz.ntmps73
  go_wp2
  go_loopw [8] (fun i wr => ∃ k : Nat, k ≤ n ∧ i = .int .i64 k ∧ wr = w ∧ ∀ i, i < k → l i = x0) (fun i _ => n - (intOf i).toNat)
  case atStart => exact ⟨0, by omega, rfl, rfl, fun _ h => absurd h (Nat.not_lt_zero _)⟩
  case round =>
    obtain ⟨k, hk, rfl, rfl, hg⟩ := hrel
    have HG := hid hg
    clear hg
    by_cases hlt : k < n
    · obtain ⟨a, c, hc⟩ := HL.out k hlt
      obtain ⟨x, X⟩ : ∃ x, Hid (l k = x) := ⟨_, rfl⟩
      rw [X.out] at hc
      by_cases hb : x ≠ x0
      · have HB := hid (odds_yes A x0 x c a wr hA hb)
        have HU : Hid (l k ≠ x0) := by show l k ≠ x0; rw [X.out]; exact hb
        clear hb
        go_wp2_with ((go_at_call 51; (with_reducible refine HB.out.mono ?_); rintro e w1 ⟨rfl, rfl⟩))
        go_ret
        exact ⟨⟨_, rfl, .inl ⟨by omega, k, hlt, HU.out⟩⟩, rfl⟩
      · have hxy : x = x0 := by omega
        have HB := hid (odds_no A x0 x c a wr hA hxy)
        have HU : Hid (l k = x0) := by show l k = x0; rw [X.out]; exact hxy
        clear hb hxy
        go_wp2_with ((go_at_call 51; (with_reducible refine HB.out.mono ?_); rintro e w1 ⟨rfl, rfl⟩))
        go_roundw
        case rel => exact ⟨k + 1, by omega, by go_num, trivial, fun i hi => by
          by_cases e : i = k
          · rw [e]; exact HU.out
          · exact HG.out i (by omega)⟩
        case measure => simp [intOf]; omega
    · obtain rfl : n = k := by omega
      go_wp2
      go_ret
      exact ⟨⟨_, rfl, .inr ⟨by omega, HG.out⟩⟩, rfl⟩
theorem odds_contains (A x0 g o n cap : Nat) (l : Nat → Nat) (w : World) (hA : w.cell? ⟨A, 0, none⟩ = some (.int .i64 x0)) (hl : RowL w g o n l) (hn : n ≤ 1000) :
    Calls Tryz.prog 52 #[.slice (some ⟨g, o, none⟩) n cap, .func (.func 51) #[] #[.pointer (some ⟨A, 0, none⟩)]] w
      fun e w' => ((e = .returned (.bool true) ∧ ∃ i, i < n ∧ l i ≠ x0) ∨ (e = .returned (.bool false) ∧ ∀ i, i < n → l i = x0)) ∧ w' = w := by
  have H := hid (odds_index A x0 g o n cap l w hA hl hn)
  clear hl hn
  go_enter Tryz.func52, Tryz.ntmps52
  go_wp2_with fail
  refine H.out.mono ?_
  rintro e w1 ⟨⟨x, rfl, ⟨h0, hb⟩ | ⟨h0, hb⟩⟩, rfl⟩
  · have HB := hid hb
    clear hb
    go_wp2
    go_ret
    exact ⟨.inl ⟨by simp, HB.out⟩, rfl⟩
  · have HB := hid hb
    have h1 : ¬ 0 ≤ x := by omega
    clear hb
    go_wp2
    go_ret
    exact ⟨.inr ⟨by simp [h1], HB.out⟩, rfl⟩
/-- The length of a slice. -/
def vlen : Value → Nat
  | .slice _ n _ => n
  | _ => 0
/-- Slices in a row. -/
structure Srow (w : World) (a : Option Addr) (n c : Nat) (xs : List Value) : Prop where
  pt : Pt w a n c xs
  sl : ∀ u ∈ xs, ∃ a n c, u = .slice a n c
theorem Pt.up {w w' : World} {a : Option Addr} {n c : Nat} {xs : List Value} (h : Pt w a n c xs) (u : Up Nul w w') : Pt w' a n c xs :=
  ⟨h.len, h.one, h.nil, fun ad e => ⟨Nat.lt_of_lt_of_le (h.at_ ad e).1 u.size, fun j v hj => (u.cell (by rw [add_block]; exact (h.at_ ad e).1) id).trans ((h.at_ ad e).2 j v hj)⟩⟩
theorem Srow.up {w w' : World} {a : Option Addr} {n c : Nat} {xs : List Value} (h : Srow w a n c xs) (u : Up Nul w w') : Srow w' a n c xs := ⟨h.pt.up u, h.sl⟩
theorem add_at (g o j : Nat) : Addr.add ⟨g, o, none⟩ j = ⟨g, o + j, none⟩ := by
  by_cases h0 : j = 0
  · subst h0; simp [Addr.add]
  · simp [Addr.add, h0]
theorem OwnV.pt {T : TypeId} {base : Nat} {w : World} {g n c : Nat} {xs : List Value} (h : OwnV T base w (.slice (some ⟨g, 0, none⟩) n c) xs) (h0 : 0 < xs.length) (h1 : ∀ u ∈ xs, u.oneCell' = true) : Pt w (some ⟨g, 0, none⟩) n c xs := by
  obtain ⟨g', c', e, _, e2, e3, _, _⟩ := h.row h0
  cases e
  exact ⟨rfl, h1, (fun h => by cases h), fun ad e => by
    cases e
    refine ⟨e2, fun j u hj => ?_⟩
    rw [add_at, Nat.zero_add]
    exact e3 j u hj⟩
theorem flat_mem {X : Nat → List Value} {m : Nat} {u : Value} : u ∈ flat X m ↔ ∃ i, i < m ∧ u ∈ X i := by simp [flat]
theorem flat_two (X : Nat → List Value) : flat X 2 = X 0 ++ X 1 := by
  rw [flat_next, flat_next]
  simp [flat]
theorem flat_six {X : Nat → List Value} {n : Nat} : ∀ m, (∀ i, i < m → (X i).length = n) → (flat X m).length = n * m
  | 0, _ => rfl
  | m + 1, h => by rw [flat_next, List.length_append, flat_six m fun i hi => h i (by omega), h m (by omega), Nat.mul_succ]
/-- A row of slices, told by their lengths. -/
theorem rowL_of {w : World} {g : Nat} {xs : List Value} (hs : ∀ u ∈ xs, ∃ a n c, u = .slice a n c) (hc : ∀ i x, xs[i]? = some x → w.cell? ⟨g, i, none⟩ = some x) : RowL w g 0 xs.length fun i => vlen (xs.getD i (.bool false)) := fun i hi => by
  obtain ⟨a, n, c, e⟩ := hs xs[i] (List.getElem_mem hi)
  have h1 : xs[i]? = some (.slice a n c) := by rw [List.getElem?_eq_getElem hi, e]
  refine ⟨a, c, ?_⟩
  show _ = some (Value.slice a (vlen (xs.getD i (.bool false))) c)
  rw [Nat.zero_add, hc i _ h1, List.getD_eq_getElem?_getD, h1]
  rfl
theorem all_len {xs : List Value} {n : Nat} : (∀ i, i < xs.length → vlen (xs.getD i (.bool false)) = n) ↔ ∀ u ∈ xs, vlen u = n := by
  constructor
  · intro h u hu
    obtain ⟨i, hi, rfl⟩ := List.mem_iff_getElem.1 hu
    have := h i hi
    rwa [List.getD_eq_getElem?_getD, List.getElem?_eq_getElem hi] at this
  · intro h i hi
    rw [List.getD_eq_getElem?_getD, List.getElem?_eq_getElem hi]
    exact h _ (List.getElem_mem hi)
set_option maxRecDepth 100000 in
theorem calike_torn (go oo m co : Nat) (l : Nat → Nat) (beside : Value) (w : World) (hl : RowL w go oo m l) (hm : m ≤ 1000) (h : ∃ i, i < m ∧ l i ≠ 6) :
    Calls Tryz.prog 28 #[.slice (some ⟨go, oo, none⟩) m co, beside] w fun e w' => e = .returned (.bool false) ∧ w' = w := by
  have H := hid (torn_contains go oo m co l w hl hm)
  have HH := hid h
  clear hl hm h
  go_enter Tryz.func28, Tryz.ntmps28
  go_wp2_with fail
  refine H.out.mono ?_
  rintro e w1 ⟨⟨rfl, hb⟩ | ⟨rfl, hb⟩, rfl⟩
  · clear hb H
    go_wp2
    go_ret
    exact ⟨rfl, rfl⟩
  · obtain ⟨i, hi, hne⟩ := HH.out
    exact absurd (hb i hi) hne
set_option maxRecDepth 100000 in
set_option maxHeartbeats 1600000 in
theorem calike_any (go oo m co n0 nb cb c0 : Nat) (G O C : Nat → Nat) (X : Nat → List Value) (a0 ab : Option Addr) (xb : List Value) (w : World) (m1 : 1 ≤ m) (m2 : m ≤ 16) (hg : go < w.heap.size)
    (h0 : ∀ i, i < m → w.cell? ⟨go, oo + i, none⟩ = some (.slice (some ⟨G i, O i, none⟩) 6 (C i))) (hx : ∀ i, i < m → Srow w (some ⟨G i, O i, none⟩) 6 (C i) (X i)) (hb : Srow w ab nb cb xb) (nb16 : nb ≤ 16) (hf : (X 0)[0]? = some (.slice a0 n0 c0)) (n63 : n0 ≤ 1000000) (P : Prop) (hP : P ↔ (1 ≤ n0 ∧ n0 ≤ 64) ∧ ∀ u ∈ flat X m ++ xb, vlen u = n0) :
    Calls Tryz.prog 28 #[.slice (some ⟨go, oo, none⟩) m co, .slice ab nb cb] w
      fun e w' => ((e = .returned (.bool true) ∧ P) ∨ (e = .returned (.bool false) ∧ ¬ P)) ∧ Up Nul w w' := by
  have hmf : ∀ (fn : Fn) (first cap : Array Value) (w : World), (Instr.makeFunc fn first cap).run Tryz.prog w = .ok (.func fn first cap) w := fun _ _ _ _ => rfl
  have hnot : ∀ (x : Bool) (w : World), (Op.unary .not (.bool x)).run Tryz.prog w = .ok (.bool (!x)) w := fun _ _ => rfl
  have H := hid (torn_contains go oo m co (fun _ => 6) w (fun i hi => ⟨_, _, h0 i hi⟩) (by omega))
  have x0 := h0 0 (by omega)
  rw [Nat.add_zero] at x0
  have x1 := ((hx 0 (by omega)).pt.at_ _ rfl).2 0 _ hf
  rw [add_at, Nat.add_zero] at x1
  have i1 : (0 : Int) < (m : Int) := by omega
  have u1 : Up Nul w (w.alloc (.cells #[.int .i64 0] 3)) := (Up.refl _ _).alloc _
  have f1 : (w.alloc (.cells #[.int .i64 0] 3)).frozen? ⟨w.heap.size, 0, none⟩ = false := World.frozen?_alloc_new w _ _ 0
  have HX := hid (And.intro (And.intro h0 hx) (And.intro hb hg))
  have HL6 : Hid ((flat X m).length = 6 * m) := flat_six m fun i hi => (hx i hi).pt.len
  have HN := hid (And.intro m1 (And.intro m2 (And.intro nb16 n63)))
  generalize G 0 = g0 at x0 x1
  generalize O 0 = o0 at x0 x1
  generalize C 0 = cc0 at x0
  have HP := hid hP
  clear h0 hx hb hf nb16 hP
  go_enter Tryz.func28, Tryz.ntmps28
  go_wp2_with fail
  refine H.out.mono ?_
  rintro e w1 ⟨⟨rfl, i, hi, hne⟩ | ⟨rfl, _⟩, rfl⟩
  · exact absurd rfl hne
  clear H
  have UA := hid ((Up.refl Nul w1).alloc (.cells #[.int .i64 (n0 : Int)] 3))
  have hA : (w1.alloc (.cells #[.int .i64 (n0 : Int)] 3)).cell? ⟨w1.heap.size, 0, none⟩ = some (.int .i64 n0) := World.cell?_alloc_new w1 _ _ 0
  have HAL : Hid (w1.heap.size < (w1.alloc (.cells #[.int .i64 (n0 : Int)] 3)).heap.size) := by show _ < _; simp
  go_wp2_with fail
  generalize w1.alloc (.cells #[.int .i64 (n0 : Int)] 3) = wa at *
  obtain ⟨A, hAA⟩ : ∃ A, Hid (w1.heap.size = A) := ⟨_, rfl⟩
  rw [hAA.out] at hA HAL
  rw [hAA.out]
  refine (cats_s go oo m co (fun i => some ⟨G i, O i, none⟩) (fun _ => 6) C X wa (by omega) (fun i hi => (UA.out.cell (p := ⟨go, oo + i, none⟩) HX.out.2.2 id).trans (HX.out.1.1 i hi)) (fun i hi => (HX.out.1.2 i hi).pt.up UA.out) (by rw [HL6.out]; omega) (by rw [HL6.out]; omega)).mono ?_
  rintro e wb ⟨v, rfl, ho, ub⟩
  have HO1 : Hid (∀ u ∈ flat X m, u.oneCell' = true) := fun u hu => by
    obtain ⟨i, hi, hu⟩ := flat_mem.1 hu
    exact (HX.out.1.2 i hi).pt.one u hu
  have HS1 : Hid (∀ u ∈ flat X m ++ xb, ∃ a n c, u = .slice a n c) := fun u hu => by
    rcases List.mem_append.1 hu with hu | hu
    · obtain ⟨i, hi, hu⟩ := flat_mem.1 hu
      exact (HX.out.1.2 i hi).sl u hu
    · exact HX.out.2.1.sl u hu
  obtain ⟨h1, c1, rfl, _, hl1, _, _, _⟩ := OwnV.row ho (by rw [HL6.out]; omega)
  have HUB : Hid (wa.heap.size ≤ wb.heap.size) := ub.size
  have HB := hid (And.intro (OwnV.pt ho (by rw [HL6.out]; omega) HO1.out) (And.intro (UA.out.trans ub) ((ub.cell (p := ⟨A, 0, none⟩) HAL.out id).trans hA)))
  rw [HL6.out] at HB ⊢
  clear ho ub hA
  go_wp2_with fail
  have HFL : Hid ((flat (fun i => if i = 0 then flat X m else xb) 2).length = 6 * m + nb) := by
    show _ = _
    rw [flat_two]
    show (flat X m ++ xb).length = _
    rw [List.length_append, HL6.out, HX.out.2.1.pt.len]
  have UC := hid ((Up.refl Nul wb).alloc (.cells #[.slice (some ⟨h1, 0, none⟩) (6 * m) c1, .slice ab nb cb] 30))
  refine (cats_s wb.heap.size 0 2 2 (fun i => if i = 0 then some ⟨h1, 0, none⟩ else ab) (fun i => if i = 0 then 6 * m else nb) (fun i => if i = 0 then c1 else cb) (fun i => if i = 0 then flat X m else xb) _ (by omega) (fun i hi => by
      match i, hi with
      | 0, _ => exact World.cell?_alloc_new wb _ _ 0
      | 1, _ => exact World.cell?_alloc_new wb _ _ 1) (fun i hi => by
      match i, hi with
      | 0, _ => exact HB.out.1.up UC.out
      | 1, _ => exact (HX.out.2.1.pt.up HB.out.2.1).up UC.out) (by rw [HFL.out]; omega) (by rw [HFL.out]; have := HN.out.2.2.1; omega)).mono ?_
  rintro e wc ⟨v, rfl, ho, uc⟩
  have hfe : flat (fun i => if i = 0 then flat X m else xb) 2 = flat X m ++ xb := flat_two _
  rw [hfe] at ho
  have hlen : (flat X m ++ xb).length = 6 * m + nb := by rw [List.length_append, HL6.out, HX.out.2.1.pt.len]
  obtain ⟨h2, c2, rfl, _, hl2, hc2, _, _⟩ := OwnV.row ho (by rw [hlen]; omega)
  have hA : wc.cell? ⟨A, 0, none⟩ = some (.int .i64 n0) := ((UC.out.trans uc).cell (p := ⟨A, 0, none⟩) (Nat.lt_of_lt_of_le HAL.out HUB.out) id).trans HB.out.2.2
  have H := hid (odds_contains A n0 h2 0 (flat X m ++ xb).length c2 (fun i => vlen ((flat X m ++ xb).getD i (.bool false))) wc hA (rowL_of HS1.out hc2) (by rw [hlen]; have := HN.out.2.2.1; omega))
  have HU := hid ((HB.out.2.1.trans UC.out).trans uc)
  rw [hlen] at H ⊢
  clear ho uc hc2 HB UC hfe hl2 hl1
  by_cases e1 : 1 ≤ n0
  · by_cases e2 : n0 ≤ 64
    · have j1 : (1 : Int) ≤ (n0 : Int) := by omega
      have j2 : (n0 : Int) ≤ 64 := by omega
      go_wp2_with fail
      refine H.out.mono ?_
      rintro e wd ⟨⟨rfl, hb⟩ | ⟨rfl, hb⟩, rfl⟩
      · have HBB : Hid (¬ ∀ u ∈ flat X m ++ xb, vlen u = n0) := fun hh => by
          obtain ⟨i, hi, hne⟩ := hb
          exact hne (all_len.2 hh i (by rw [hlen]; exact hi))
        clear hb
        go_wp2
        go_ret
        exact ⟨.inr ⟨rfl, fun hh => HBB.out (HP.out.1 hh).2⟩, HU.out⟩
      · have HBB : Hid (∀ u ∈ flat X m ++ xb, vlen u = n0) := all_len.1 fun i hi => hb i (by rw [hlen] at hi; exact hi)
        clear hb
        go_wp2
        go_ret
        exact ⟨.inl ⟨rfl, HP.out.2 ⟨⟨e1, e2⟩, HBB.out⟩⟩, HU.out⟩
    · have j1 : (1 : Int) ≤ (n0 : Int) := by omega
      have j2 : ¬ (n0 : Int) ≤ 64 := by omega
      go_wp2
      go_ret
      exact ⟨.inr ⟨rfl, fun hh => e2 (HP.out.1 hh).1.2⟩, HU.out⟩
  · have j1 : ¬ (1 : Int) ≤ (n0 : Int) := by omega
    go_wp2
    go_ret
    exact ⟨.inr ⟨rfl, fun hh => e1 (HP.out.1 hh).1.1⟩, HU.out⟩
end Go.Proofs.YtmaffnadmfphpaaGreat
