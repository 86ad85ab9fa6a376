/- A source's 'table'. -/
import Derived.Test.YtpdkcpjofofkoaaDoorRcNum
namespace Go.Proofs.YtpdkcpjofofkoaaDoor
open Go.RowKit
set_option linter.unusedVariables false

theorem word_any (B : Nat) (w : World) (q x : Nat) (b : List Nat) (h : So B w q b) (hx : w.cell? ⟨x, 0, none⟩ = some (.pointer (some ⟨q, 0, none⟩))) (h8 : ∀ x ∈ b, x < 256) :
    Calls Tryd.prog 52 #[.pointer (some ⟨x, 0, none⟩)] w fun e w' => e = .returned (.int .i64 (num 4 b : Nat)) ∧ So B w' q (b.drop 4) ∧ Up (One q) w w' := by
  have HN := hid (number_any B w q 4 b h (by omega) h8)
  clear h h8
  generalize num 4 b = n at HN ⊢
  generalize b.drop 4 = b' at HN ⊢
  go_enter Tryd.func52, Tryd.ntmps52
  go_wp2_with fail
  refine HN.out.mono ?_
  rintro e w1 ⟨rfl, s, u⟩
  have HS := hid (And.intro s u)
  clear s u
  go_wp2
  go_ret
  exact ⟨rfl, HS.out⟩
/-- The Table that the next 24 bytes are. -/
def tabOf (b : List Nat) : Tb := ⟨(num 4 b : Nat), (num 4 (b.drop 4) : Nat), (num 4 (b.drop 8) : Nat), (num 4 (b.drop 12) : Nat), (num 4 (b.drop 16) : Nat), (num 4 (b.drop 20) : Nat)⟩
set_option maxHeartbeats 1000000 in
theorem stable_any (B : Nat) (w : World) (q : Nat) (b : List Nat) (h : So B w q b) (hB : B ≤ w.heap.size) (h8 : ∀ x ∈ b, x < 256) :
    Calls Tryd.prog 49 #[.pointer (some ⟨q, 0, none⟩)] w fun e w' => e = .returned (tbv (tabOf b)) ∧ Sg B w q (b.drop 24) w' := by
  obtain ⟨W0, hW0⟩ : ∃ W, W = (w.alloc (.cells #[.pointer (some ⟨q, 0, none⟩)] 88)).alloc (.cells #[.int .i64 0, .int .i64 0, .int .i64 0, .int .i64 0, .int .i64 0, .int .i64 0] 25) := ⟨_, rfl⟩
  have U0 : Up Nul w W0 := by rw [hW0]; exact ((Up.refl Nul w).alloc _).alloc _
  have hx : W0.heap[w.heap.size]? = some (.cells #[.pointer (some ⟨q, 0, none⟩)] 88 (0, 0)) := by rw [hW0]; exact (Below.heap_alloc _ _ _ (by simp)).trans (heap_alloc_new _ _)
  have hp : W0.heap[w.heap.size + 1]? = some (.cells #[.int .i64 0, .int .i64 0, .int .i64 0, .int .i64 0, .int .i64 0, .int .i64 0] 25 (0, 0)) := by
    rw [hW0]
    have := heap_alloc_new (w.alloc (.cells #[.pointer (some ⟨q, 0, none⟩)] 88)) (.cells #[.int .i64 0, .int .i64 0, .int .i64 0, .int .i64 0, .int .i64 0, .int .i64 0] 25)
    simpa using this
  have hq := h.lt
  have HS := hid (Sg.mk (h.nxt U0) U0.nul)
  obtain ⟨x, X⟩ : ∃ x, Hid (w.heap.size = x) := ⟨_, rfl⟩
  obtain ⟨p, P⟩ : ∃ p, Hid (w.heap.size + 1 = p) := ⟨_, rfl⟩
  have HPW : Hid (w.heap.size ≤ p ∧ B ≤ w.heap.size) := ⟨by rw [← P.out]; omega, hB⟩
  have HPQ : Hid (p ≠ q ∧ x ≠ q) := by show p ≠ q ∧ x ≠ q; rw [← P.out, ← X.out]; omega
  rw [P.out] at hp
  rw [X.out] at hx
  have HP := hid (And.intro hp hx)
  obtain ⟨b1, B1⟩ : ∃ x, Hid (b.drop 4 = x) := ⟨_, rfl⟩
  obtain ⟨n1, N1⟩ : ∃ x, Hid (num 4 b = x) := ⟨_, rfl⟩
  have h81 : ∀ x ∈ b1, x < 256 := by rw [← B1.out]; exact small_drop h8 4
  have HC1 : Hid (∀ W, So B W q b → W.heap[x]? = some (.cells #[.pointer (some ⟨q, 0, none⟩)] 88 (0, 0)) → Calls Tryd.prog 52 #[.pointer (some ⟨x, 0, none⟩)] W fun e w' => e = .returned (.int .i64 (n1 : Nat)) ∧ So B w' q b1 ∧ Up (One q) W w') := fun W s hx => by
    have := word_any B W q x b s (by simp [World.cell?, hx]) h8
    rw [N1.out, B1.out] at this
    exact this
  obtain ⟨b2, B2⟩ : ∃ x, Hid (b1.drop 4 = x) := ⟨_, rfl⟩
  obtain ⟨n2, N2⟩ : ∃ x, Hid (num 4 b1 = x) := ⟨_, rfl⟩
  have h82 : ∀ x ∈ b2, x < 256 := by rw [← B2.out]; exact small_drop h81 4
  have HC2 : Hid (∀ W, So B W q b1 → W.heap[x]? = some (.cells #[.pointer (some ⟨q, 0, none⟩)] 88 (0, 0)) → Calls Tryd.prog 52 #[.pointer (some ⟨x, 0, none⟩)] W fun e w' => e = .returned (.int .i64 (n2 : Nat)) ∧ So B w' q b2 ∧ Up (One q) W w') := fun W s hx => by
    have := word_any B W q x b1 s (by simp [World.cell?, hx]) h81
    rw [N2.out, B2.out] at this
    exact this
  obtain ⟨b3, B3⟩ : ∃ x, Hid (b2.drop 4 = x) := ⟨_, rfl⟩
  obtain ⟨n3, N3⟩ : ∃ x, Hid (num 4 b2 = x) := ⟨_, rfl⟩
  have h83 : ∀ x ∈ b3, x < 256 := by rw [← B3.out]; exact small_drop h82 4
  have HC3 : Hid (∀ W, So B W q b2 → W.heap[x]? = some (.cells #[.pointer (some ⟨q, 0, none⟩)] 88 (0, 0)) → Calls Tryd.prog 52 #[.pointer (some ⟨x, 0, none⟩)] W fun e w' => e = .returned (.int .i64 (n3 : Nat)) ∧ So B w' q b3 ∧ Up (One q) W w') := fun W s hx => by
    have := word_any B W q x b2 s (by simp [World.cell?, hx]) h82
    rw [N3.out, B3.out] at this
    exact this
  obtain ⟨b4, B4⟩ : ∃ x, Hid (b3.drop 4 = x) := ⟨_, rfl⟩
  obtain ⟨n4, N4⟩ : ∃ x, Hid (num 4 b3 = x) := ⟨_, rfl⟩
  have h84 : ∀ x ∈ b4, x < 256 := by rw [← B4.out]; exact small_drop h83 4
  have HC4 : Hid (∀ W, So B W q b3 → W.heap[x]? = some (.cells #[.pointer (some ⟨q, 0, none⟩)] 88 (0, 0)) → Calls Tryd.prog 52 #[.pointer (some ⟨x, 0, none⟩)] W fun e w' => e = .returned (.int .i64 (n4 : Nat)) ∧ So B w' q b4 ∧ Up (One q) W w') := fun W s hx => by
    have := word_any B W q x b3 s (by simp [World.cell?, hx]) h83
    rw [N4.out, B4.out] at this
    exact this
  obtain ⟨b5, B5⟩ : ∃ x, Hid (b4.drop 4 = x) := ⟨_, rfl⟩
  obtain ⟨n5, N5⟩ : ∃ x, Hid (num 4 b4 = x) := ⟨_, rfl⟩
  have h85 : ∀ x ∈ b5, x < 256 := by rw [← B5.out]; exact small_drop h84 4
  have HC5 : Hid (∀ W, So B W q b4 → W.heap[x]? = some (.cells #[.pointer (some ⟨q, 0, none⟩)] 88 (0, 0)) → Calls Tryd.prog 52 #[.pointer (some ⟨x, 0, none⟩)] W fun e w' => e = .returned (.int .i64 (n5 : Nat)) ∧ So B w' q b5 ∧ Up (One q) W w') := fun W s hx => by
    have := word_any B W q x b4 s (by simp [World.cell?, hx]) h84
    rw [N5.out, B5.out] at this
    exact this
  obtain ⟨b6, B6⟩ : ∃ x, Hid (b5.drop 4 = x) := ⟨_, rfl⟩
  obtain ⟨n6, N6⟩ : ∃ x, Hid (num 4 b5 = x) := ⟨_, rfl⟩
  have h86 : ∀ x ∈ b6, x < 256 := by rw [← B6.out]; exact small_drop h85 4
  have HC6 : Hid (∀ W, So B W q b5 → W.heap[x]? = some (.cells #[.pointer (some ⟨q, 0, none⟩)] 88 (0, 0)) → Calls Tryd.prog 52 #[.pointer (some ⟨x, 0, none⟩)] W fun e w' => e = .returned (.int .i64 (n6 : Nat)) ∧ So B w' q b6 ∧ Up (One q) W w') := fun W s hx => by
    have := word_any B W q x b5 s (by simp [World.cell?, hx]) h85
    rw [N6.out, B6.out] at this
    exact this
  have HE : Hid (tbv (tabOf b) = .agg #[.int .i64 (n1 : Nat), .int .i64 (n2 : Nat), .int .i64 (n3 : Nat), .int .i64 (n4 : Nat), .int .i64 (n5 : Nat), .int .i64 (n6 : Nat)]) := by
    show Value.agg #[.int .i64 ((num 4 b : Nat) : Int), .int .i64 ((num 4 (b.drop 4) : Nat) : Int), .int .i64 ((num 4 (b.drop 8) : Nat) : Int), .int .i64 ((num 4 (b.drop 12) : Nat) : Int), .int .i64 ((num 4 (b.drop 16) : Nat) : Int), .int .i64 ((num 4 (b.drop 20) : Nat) : Int)] = _
    rw [show b.drop 20 = ((((b.drop 4).drop 4).drop 4).drop 4).drop 4 by simp only [List.drop_drop], show b.drop 16 = (((b.drop 4).drop 4).drop 4).drop 4 by simp only [List.drop_drop], show b.drop 12 = ((b.drop 4).drop 4).drop 4 by simp only [List.drop_drop], show b.drop 8 = (b.drop 4).drop 4 by simp only [List.drop_drop], B1.out, B2.out, B3.out, B4.out, B5.out, N1.out, N2.out, N3.out, N4.out, N5.out, N6.out]
  have HB3 : Hid (b.drop 24 = b6) := by show _ = _; rw [← B6.out, ← B5.out, ← B4.out, ← B3.out, ← B2.out, ← B1.out]; simp only [List.drop_drop]
  rw [HE.out, HB3.out]
  clear h h8 U0 hp hx hq hB B1 N1 h81 B2 N2 h82 B3 N3 h83 B4 N4 h84 B5 N5 h85 B6 N6 h86 HE HB3
  go_enter Tryd.func49, Tryd.ntmps49
  go_wp2_with fail
  rw [← hW0]
  clear hW0
  rw [P.out, X.out]
  refine (HC1.out W0 HS.out.so HP.out.2).mono ?_
  rintro e w1 ⟨rfl, s, u⟩
  have HS1 := hid (HS.out.go s u)
  have HP1 := hid (And.intro (Sg.blk (B := B) (b := b) u HP.out.1 HPQ.out.1) (Sg.blk (B := B) (b := b) u HP.out.2 HPQ.out.2))
  clear s u HS HP HC1
  go_wp2_with fail
  refine (HC2.out w1 HS1.out.so HP1.out.2).mono ?_
  rintro e w2 ⟨rfl, s, u⟩
  have HS2 := hid (HS1.out.go s u)
  have HP2 := hid (And.intro (Sg.blk (B := B) (b := b) u HP1.out.1 HPQ.out.1) (Sg.blk (B := B) (b := b) u HP1.out.2 HPQ.out.2))
  clear s u HS1 HP1 HC2
  go_wp2_with fail
  refine (HC3.out w2 HS2.out.so HP2.out.2).mono ?_
  rintro e w3 ⟨rfl, s, u⟩
  have HS3 := hid (HS2.out.go s u)
  have HP3 := hid (And.intro (Sg.blk (B := B) (b := b) u HP2.out.1 HPQ.out.1) (Sg.blk (B := B) (b := b) u HP2.out.2 HPQ.out.2))
  clear s u HS2 HP2 HC3
  go_wp2_with fail
  refine (HC4.out w3 HS3.out.so HP3.out.2).mono ?_
  rintro e w4 ⟨rfl, s, u⟩
  have HS4 := hid (HS3.out.go s u)
  have HP4 := hid (And.intro (Sg.blk (B := B) (b := b) u HP3.out.1 HPQ.out.1) (Sg.blk (B := B) (b := b) u HP3.out.2 HPQ.out.2))
  clear s u HS3 HP3 HC4
  go_wp2_with fail
  refine (HC5.out w4 HS4.out.so HP4.out.2).mono ?_
  rintro e w5 ⟨rfl, s, u⟩
  have HS5 := hid (HS4.out.go s u)
  have HP5 := hid (And.intro (Sg.blk (B := B) (b := b) u HP4.out.1 HPQ.out.1) (Sg.blk (B := B) (b := b) u HP4.out.2 HPQ.out.2))
  clear s u HS4 HP4 HC5
  go_wp2_with fail
  refine (HC6.out w5 HS5.out.so HP5.out.2).mono ?_
  rintro e w6 ⟨rfl, s, u⟩
  have HS6 := hid (HS5.out.go s u)
  have HP6 := hid (And.intro (Sg.blk (B := B) (b := b) u HP5.out.1 HPQ.out.1) (Sg.blk (B := B) (b := b) u HP5.out.2 HPQ.out.2))
  clear s u HS5 HP5 HC6
  have hp6 := HP6.out.1
  have x0 : w6.cell? ⟨p, 0, none⟩ = some (.int .i64 0) := by simp [World.cell?, hp6]
  have f0 : w6.frozen? ⟨p, 0, none⟩ = false := by simp [World.frozen?, hp6]
  have x1 : w6.cell? ⟨p, 1, none⟩ = some (.int .i64 0) := by simp [World.cell?, hp6]
  have f1 : w6.frozen? ⟨p, 1, none⟩ = false := by simp [World.frozen?, hp6]
  have x2 : w6.cell? ⟨p, 2, none⟩ = some (.int .i64 0) := by simp [World.cell?, hp6]
  have f2 : w6.frozen? ⟨p, 2, none⟩ = false := by simp [World.frozen?, hp6]
  have x3 : w6.cell? ⟨p, 3, none⟩ = some (.int .i64 0) := by simp [World.cell?, hp6]
  have f3 : w6.frozen? ⟨p, 3, none⟩ = false := by simp [World.frozen?, hp6]
  have x4 : w6.cell? ⟨p, 4, none⟩ = some (.int .i64 0) := by simp [World.cell?, hp6]
  have f4 : w6.frozen? ⟨p, 4, none⟩ = false := by simp [World.frozen?, hp6]
  have x5 : w6.cell? ⟨p, 5, none⟩ = some (.int .i64 0) := by simp [World.cell?, hp6]
  have f5 : w6.frozen? ⟨p, 5, none⟩ = false := by simp [World.frozen?, hp6]
  clear hp6
  go_wp2_with fail
  refine bodyPost_ret (results_cell_row (P := Tryd.prog) (ty := 25) rfl _ _ p _ _ _ _ rfl (heap6s HP6.out.1 _ _ _ _ _ _) Tryd.underlying25 rfl info_tab6) rfl ?_
  exact ⟨rfl, ((((((HS6.out.set HPW.out.1 HPW.out.2 HPQ.out.1 0 _).set HPW.out.1 HPW.out.2 HPQ.out.1 1 _).set HPW.out.1 HPW.out.2 HPQ.out.1 2 _).set HPW.out.1 HPW.out.2 HPQ.out.1 3 _).set HPW.out.1 HPW.out.2 HPQ.out.1 4 _).set HPW.out.1 HPW.out.2 HPQ.out.1 5 _)⟩
end Go.Proofs.YtpdkcpjofofkoaaDoor
