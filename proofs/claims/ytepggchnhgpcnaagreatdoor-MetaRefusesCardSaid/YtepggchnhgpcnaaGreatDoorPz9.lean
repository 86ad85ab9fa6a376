/- 'change' by each Kind, over what it calls. -/
import Derived.Test.YtepggchnhgpcnaaGreatDoorPkTidy
import Derived.Test.YtepggchnhgpcnaaGreatDoorPz8
namespace Go.Proofs.YtepggchnhgpcnaaGreatDoor
open Go.RowKit Go.Maps
set_option linter.unusedVariables false

set_option maxRecDepth 10000 in
set_option maxHeartbeats 4000000 in
theorem change_1 (p : Nat) (w : World) (r : Rc) (h1 : r.kind = 1) (sv lv : Value) (hsv : ∃ a l c, sv = .slice a l c) (hlv : ∃ a l c, lv = .slice a l c) (P : Int → World → Prop) (HP : ∀ V, Up Nul w V → Calls Tryz.prog 65 #[.pointer (some ⟨p, 0, none⟩), .agg #[.int .i64 r.kind, .string r.key, .int .i64 r.n, .int .i64 r.sid, sv, .int .i64 r.colour, lv, .int .i64 r.t.hot, .int .i64 r.t.warm, .int .i64 r.t.gap, .int .i64 r.t.add, .int .i64 r.t.top, .int .i64 r.t.half]] V fun e w' => ∃ x, e = .returned (.int .i64 x) ∧ P x w') :
  Calls Tryz.prog 23 #[.pointer (some ⟨p, 0, none⟩), rv r sv lv] w fun e w' => ∃ x, e = .returned (.int .i64 x) ∧ P x w' := by
 obtain ⟨w1, hw1⟩ : ∃ W, W = w.alloc (.cells #[.int .i64 r.kind, .string r.key, .int .i64 r.n, .int .i64 r.sid, sv, .int .i64 r.colour, lv, .int .i64 r.t.hot, .int .i64 r.t.warm, .int .i64 r.t.gap, .int .i64 r.t.add, .int .i64 r.t.top, .int .i64 r.t.half] 28) := ⟨_, rfl⟩
 have u1 : Up Nul w w1 := by rw [hw1]; exact (Up.refl _ _).alloc _
 have b1 : w1.heap[w.heap.size]? = some (.cells #[.int .i64 r.kind, .string r.key, .int .i64 r.n, .int .i64 r.sid, sv, .int .i64 r.colour, lv, .int .i64 r.t.hot, .int .i64 r.t.warm, .int .i64 r.t.gap, .int .i64 r.t.add, .int .i64 r.t.top, .int .i64 r.t.half] 28 (0, 0)) := by rw [hw1]; exact heap_alloc_new _ _
 have HP := hid (HP w1 u1)
 obtain ⟨sa, sl, sc, rfl⟩ := hsv
 obtain ⟨la, ll, lc, rfl⟩ := hlv
 have g0 : w1.cell? ⟨w.heap.size, 0, none⟩ = some (.int .i64 r.kind) := by simp [World.cell?, b1]
 have g1 : w1.cell? ⟨w.heap.size, 1, none⟩ = some (.string r.key) := by simp [World.cell?, b1]
 have g2 : w1.cell? ⟨w.heap.size, 2, none⟩ = some (.int .i64 r.n) := by simp [World.cell?, b1]
 have g3 : w1.cell? ⟨w.heap.size, 3, none⟩ = some (.int .i64 r.sid) := by simp [World.cell?, b1]
 have g4 : w1.cell? ⟨w.heap.size, 4, none⟩ = some (Value.slice sa sl sc) := by simp [World.cell?, b1]
 have g5 : w1.cell? ⟨w.heap.size, 5, none⟩ = some (.int .i64 r.colour) := by simp [World.cell?, b1]
 have g6 : w1.cell? ⟨w.heap.size, 6, none⟩ = some (Value.slice la ll lc) := by simp [World.cell?, b1]
 have g7 : w1.cell? ⟨w.heap.size, 7, none⟩ = some (.int .i64 r.t.hot) := by simp [World.cell?, b1]
 have g8 : w1.cell? ⟨w.heap.size, 8, none⟩ = some (.int .i64 r.t.warm) := by simp [World.cell?, b1]
 have g9 : w1.cell? ⟨w.heap.size, 9, none⟩ = some (.int .i64 r.t.gap) := by simp [World.cell?, b1]
 have g10 : w1.cell? ⟨w.heap.size, 10, none⟩ = some (.int .i64 r.t.add) := by simp [World.cell?, b1]
 have g11 : w1.cell? ⟨w.heap.size, 11, none⟩ = some (.int .i64 r.t.top) := by simp [World.cell?, b1]
 have g12 : w1.cell? ⟨w.heap.size, 12, none⟩ = some (.int .i64 r.t.half) := by simp [World.cell?, b1]
 show Calls Tryz.prog 23 #[.pointer (some ⟨p, 0, none⟩), .agg #[.int .i64 r.kind, .string r.key, .int .i64 r.n, .int .i64 r.sid, .slice sa sl sc, .int .i64 r.colour, .slice la ll lc, .int .i64 r.t.hot, .int .i64 r.t.warm, .int .i64 r.t.gap, .int .i64 r.t.add, .int .i64 r.t.top, .int .i64 r.t.half]] w _
 rw [h1] at g0 hw1 HP ⊢
 rename_i HPO
 clear u1 b1 h1 HPO
 go_enter Tryz.func23, Tryz.ntmps23
 go_wp2_with fail
 rw [← hw1]
 clear hw1
 refine HP.out.mono ?_
 rintro e w2 ⟨x, rfl, h2⟩
 have H2 := hid h2
 clear h2
 go_wp2
 go_ret
 exact ⟨x, rfl, H2.out⟩
set_option maxRecDepth 10000 in
set_option maxHeartbeats 4000000 in
theorem change_2 (p : Nat) (w : World) (r : Rc) (h1 : r.kind = 2) (sv lv : Value) (hsv : ∃ a l c, sv = .slice a l c) (hlv : ∃ a l c, lv = .slice a l c) (P : Int → World → Prop) (HP : ∀ V, Up Nul w V → Calls Tryz.prog 66 #[.pointer (some ⟨p, 0, none⟩), .string r.key] V fun e w' => ∃ x, e = .returned (.int .i64 x) ∧ P x w') :
  Calls Tryz.prog 23 #[.pointer (some ⟨p, 0, none⟩), rv r sv lv] w fun e w' => ∃ x, e = .returned (.int .i64 x) ∧ P x w' := by
 obtain ⟨w1, hw1⟩ : ∃ W, W = w.alloc (.cells #[.int .i64 r.kind, .string r.key, .int .i64 r.n, .int .i64 r.sid, sv, .int .i64 r.colour, lv, .int .i64 r.t.hot, .int .i64 r.t.warm, .int .i64 r.t.gap, .int .i64 r.t.add, .int .i64 r.t.top, .int .i64 r.t.half] 28) := ⟨_, rfl⟩
 have u1 : Up Nul w w1 := by rw [hw1]; exact (Up.refl _ _).alloc _
 have b1 : w1.heap[w.heap.size]? = some (.cells #[.int .i64 r.kind, .string r.key, .int .i64 r.n, .int .i64 r.sid, sv, .int .i64 r.colour, lv, .int .i64 r.t.hot, .int .i64 r.t.warm, .int .i64 r.t.gap, .int .i64 r.t.add, .int .i64 r.t.top, .int .i64 r.t.half] 28 (0, 0)) := by rw [hw1]; exact heap_alloc_new _ _
 have HP := hid (HP w1 u1)
 obtain ⟨sa, sl, sc, rfl⟩ := hsv
 obtain ⟨la, ll, lc, rfl⟩ := hlv
 have g0 : w1.cell? ⟨w.heap.size, 0, none⟩ = some (.int .i64 r.kind) := by simp [World.cell?, b1]
 have g1 : w1.cell? ⟨w.heap.size, 1, none⟩ = some (.string r.key) := by simp [World.cell?, b1]
 have g2 : w1.cell? ⟨w.heap.size, 2, none⟩ = some (.int .i64 r.n) := by simp [World.cell?, b1]
 have g3 : w1.cell? ⟨w.heap.size, 3, none⟩ = some (.int .i64 r.sid) := by simp [World.cell?, b1]
 have g4 : w1.cell? ⟨w.heap.size, 4, none⟩ = some (Value.slice sa sl sc) := by simp [World.cell?, b1]
 have g5 : w1.cell? ⟨w.heap.size, 5, none⟩ = some (.int .i64 r.colour) := by simp [World.cell?, b1]
 have g6 : w1.cell? ⟨w.heap.size, 6, none⟩ = some (Value.slice la ll lc) := by simp [World.cell?, b1]
 have g7 : w1.cell? ⟨w.heap.size, 7, none⟩ = some (.int .i64 r.t.hot) := by simp [World.cell?, b1]
 have g8 : w1.cell? ⟨w.heap.size, 8, none⟩ = some (.int .i64 r.t.warm) := by simp [World.cell?, b1]
 have g9 : w1.cell? ⟨w.heap.size, 9, none⟩ = some (.int .i64 r.t.gap) := by simp [World.cell?, b1]
 have g10 : w1.cell? ⟨w.heap.size, 10, none⟩ = some (.int .i64 r.t.add) := by simp [World.cell?, b1]
 have g11 : w1.cell? ⟨w.heap.size, 11, none⟩ = some (.int .i64 r.t.top) := by simp [World.cell?, b1]
 have g12 : w1.cell? ⟨w.heap.size, 12, none⟩ = some (.int .i64 r.t.half) := by simp [World.cell?, b1]
 show Calls Tryz.prog 23 #[.pointer (some ⟨p, 0, none⟩), .agg #[.int .i64 r.kind, .string r.key, .int .i64 r.n, .int .i64 r.sid, .slice sa sl sc, .int .i64 r.colour, .slice la ll lc, .int .i64 r.t.hot, .int .i64 r.t.warm, .int .i64 r.t.gap, .int .i64 r.t.add, .int .i64 r.t.top, .int .i64 r.t.half]] w _
 rw [h1] at g0 hw1 ⊢
 rename_i HPO
 clear u1 b1 h1 HPO
 go_enter Tryz.func23, Tryz.ntmps23
 go_wp2_with fail
 rw [← hw1]
 clear hw1
 refine HP.out.mono ?_
 rintro e w2 ⟨x, rfl, h2⟩
 have H2 := hid h2
 clear h2
 go_wp2
 go_ret
 exact ⟨x, rfl, H2.out⟩
set_option maxRecDepth 10000 in
set_option maxHeartbeats 4000000 in
theorem change_3 (p : Nat) (w : World) (r : Rc) (h1 : r.kind = 3) (sv lv : Value) (hsv : ∃ a l c, sv = .slice a l c) (hlv : ∃ a l c, lv = .slice a l c) (P : Int → World → Prop) (HP : ∀ V, Up Nul w V → Calls Tryz.prog 67 #[.pointer (some ⟨p, 0, none⟩), .agg #[.int .i64 r.kind, .string r.key, .int .i64 r.n, .int .i64 r.sid, sv, .int .i64 r.colour, lv, .int .i64 r.t.hot, .int .i64 r.t.warm, .int .i64 r.t.gap, .int .i64 r.t.add, .int .i64 r.t.top, .int .i64 r.t.half], .int .i64 1, .int .i64 2] V fun e w' => ∃ x, e = .returned (.int .i64 x) ∧ P x w') :
  Calls Tryz.prog 23 #[.pointer (some ⟨p, 0, none⟩), rv r sv lv] w fun e w' => ∃ x, e = .returned (.int .i64 x) ∧ P x w' := by
 obtain ⟨w1, hw1⟩ : ∃ W, W = w.alloc (.cells #[.int .i64 r.kind, .string r.key, .int .i64 r.n, .int .i64 r.sid, sv, .int .i64 r.colour, lv, .int .i64 r.t.hot, .int .i64 r.t.warm, .int .i64 r.t.gap, .int .i64 r.t.add, .int .i64 r.t.top, .int .i64 r.t.half] 28) := ⟨_, rfl⟩
 have u1 : Up Nul w w1 := by rw [hw1]; exact (Up.refl _ _).alloc _
 have b1 : w1.heap[w.heap.size]? = some (.cells #[.int .i64 r.kind, .string r.key, .int .i64 r.n, .int .i64 r.sid, sv, .int .i64 r.colour, lv, .int .i64 r.t.hot, .int .i64 r.t.warm, .int .i64 r.t.gap, .int .i64 r.t.add, .int .i64 r.t.top, .int .i64 r.t.half] 28 (0, 0)) := by rw [hw1]; exact heap_alloc_new _ _
 have HP := hid (HP w1 u1)
 obtain ⟨sa, sl, sc, rfl⟩ := hsv
 obtain ⟨la, ll, lc, rfl⟩ := hlv
 have g0 : w1.cell? ⟨w.heap.size, 0, none⟩ = some (.int .i64 r.kind) := by simp [World.cell?, b1]
 have g1 : w1.cell? ⟨w.heap.size, 1, none⟩ = some (.string r.key) := by simp [World.cell?, b1]
 have g2 : w1.cell? ⟨w.heap.size, 2, none⟩ = some (.int .i64 r.n) := by simp [World.cell?, b1]
 have g3 : w1.cell? ⟨w.heap.size, 3, none⟩ = some (.int .i64 r.sid) := by simp [World.cell?, b1]
 have g4 : w1.cell? ⟨w.heap.size, 4, none⟩ = some (Value.slice sa sl sc) := by simp [World.cell?, b1]
 have g5 : w1.cell? ⟨w.heap.size, 5, none⟩ = some (.int .i64 r.colour) := by simp [World.cell?, b1]
 have g6 : w1.cell? ⟨w.heap.size, 6, none⟩ = some (Value.slice la ll lc) := by simp [World.cell?, b1]
 have g7 : w1.cell? ⟨w.heap.size, 7, none⟩ = some (.int .i64 r.t.hot) := by simp [World.cell?, b1]
 have g8 : w1.cell? ⟨w.heap.size, 8, none⟩ = some (.int .i64 r.t.warm) := by simp [World.cell?, b1]
 have g9 : w1.cell? ⟨w.heap.size, 9, none⟩ = some (.int .i64 r.t.gap) := by simp [World.cell?, b1]
 have g10 : w1.cell? ⟨w.heap.size, 10, none⟩ = some (.int .i64 r.t.add) := by simp [World.cell?, b1]
 have g11 : w1.cell? ⟨w.heap.size, 11, none⟩ = some (.int .i64 r.t.top) := by simp [World.cell?, b1]
 have g12 : w1.cell? ⟨w.heap.size, 12, none⟩ = some (.int .i64 r.t.half) := by simp [World.cell?, b1]
 show Calls Tryz.prog 23 #[.pointer (some ⟨p, 0, none⟩), .agg #[.int .i64 r.kind, .string r.key, .int .i64 r.n, .int .i64 r.sid, .slice sa sl sc, .int .i64 r.colour, .slice la ll lc, .int .i64 r.t.hot, .int .i64 r.t.warm, .int .i64 r.t.gap, .int .i64 r.t.add, .int .i64 r.t.top, .int .i64 r.t.half]] w _
 rw [h1] at g0 hw1 HP ⊢
 rename_i HPO
 clear u1 b1 h1 HPO
 go_enter Tryz.func23, Tryz.ntmps23
 go_wp2_with fail
 rw [← hw1]
 clear hw1
 refine HP.out.mono ?_
 rintro e w2 ⟨x, rfl, h2⟩
 have H2 := hid h2
 clear h2
 go_wp2
 go_ret
 exact ⟨x, rfl, H2.out⟩
set_option maxRecDepth 10000 in
set_option maxHeartbeats 4000000 in
theorem change_4 (p : Nat) (w : World) (r : Rc) (h1 : r.kind = 4) (sv lv : Value) (hsv : ∃ a l c, sv = .slice a l c) (hlv : ∃ a l c, lv = .slice a l c) (P : Int → World → Prop) (HP : ∀ V, Up Nul w V → Calls Tryz.prog 67 #[.pointer (some ⟨p, 0, none⟩), .agg #[.int .i64 r.kind, .string r.key, .int .i64 r.n, .int .i64 r.sid, sv, .int .i64 r.colour, lv, .int .i64 r.t.hot, .int .i64 r.t.warm, .int .i64 r.t.gap, .int .i64 r.t.add, .int .i64 r.t.top, .int .i64 r.t.half], .int .i64 2, .int .i64 1] V fun e w' => ∃ x, e = .returned (.int .i64 x) ∧ P x w') :
  Calls Tryz.prog 23 #[.pointer (some ⟨p, 0, none⟩), rv r sv lv] w fun e w' => ∃ x, e = .returned (.int .i64 x) ∧ P x w' := by
 obtain ⟨w1, hw1⟩ : ∃ W, W = w.alloc (.cells #[.int .i64 r.kind, .string r.key, .int .i64 r.n, .int .i64 r.sid, sv, .int .i64 r.colour, lv, .int .i64 r.t.hot, .int .i64 r.t.warm, .int .i64 r.t.gap, .int .i64 r.t.add, .int .i64 r.t.top, .int .i64 r.t.half] 28) := ⟨_, rfl⟩
 have u1 : Up Nul w w1 := by rw [hw1]; exact (Up.refl _ _).alloc _
 have b1 : w1.heap[w.heap.size]? = some (.cells #[.int .i64 r.kind, .string r.key, .int .i64 r.n, .int .i64 r.sid, sv, .int .i64 r.colour, lv, .int .i64 r.t.hot, .int .i64 r.t.warm, .int .i64 r.t.gap, .int .i64 r.t.add, .int .i64 r.t.top, .int .i64 r.t.half] 28 (0, 0)) := by rw [hw1]; exact heap_alloc_new _ _
 have HP := hid (HP w1 u1)
 obtain ⟨sa, sl, sc, rfl⟩ := hsv
 obtain ⟨la, ll, lc, rfl⟩ := hlv
 have g0 : w1.cell? ⟨w.heap.size, 0, none⟩ = some (.int .i64 r.kind) := by simp [World.cell?, b1]
 have g1 : w1.cell? ⟨w.heap.size, 1, none⟩ = some (.string r.key) := by simp [World.cell?, b1]
 have g2 : w1.cell? ⟨w.heap.size, 2, none⟩ = some (.int .i64 r.n) := by simp [World.cell?, b1]
 have g3 : w1.cell? ⟨w.heap.size, 3, none⟩ = some (.int .i64 r.sid) := by simp [World.cell?, b1]
 have g4 : w1.cell? ⟨w.heap.size, 4, none⟩ = some (Value.slice sa sl sc) := by simp [World.cell?, b1]
 have g5 : w1.cell? ⟨w.heap.size, 5, none⟩ = some (.int .i64 r.colour) := by simp [World.cell?, b1]
 have g6 : w1.cell? ⟨w.heap.size, 6, none⟩ = some (Value.slice la ll lc) := by simp [World.cell?, b1]
 have g7 : w1.cell? ⟨w.heap.size, 7, none⟩ = some (.int .i64 r.t.hot) := by simp [World.cell?, b1]
 have g8 : w1.cell? ⟨w.heap.size, 8, none⟩ = some (.int .i64 r.t.warm) := by simp [World.cell?, b1]
 have g9 : w1.cell? ⟨w.heap.size, 9, none⟩ = some (.int .i64 r.t.gap) := by simp [World.cell?, b1]
 have g10 : w1.cell? ⟨w.heap.size, 10, none⟩ = some (.int .i64 r.t.add) := by simp [World.cell?, b1]
 have g11 : w1.cell? ⟨w.heap.size, 11, none⟩ = some (.int .i64 r.t.top) := by simp [World.cell?, b1]
 have g12 : w1.cell? ⟨w.heap.size, 12, none⟩ = some (.int .i64 r.t.half) := by simp [World.cell?, b1]
 show Calls Tryz.prog 23 #[.pointer (some ⟨p, 0, none⟩), .agg #[.int .i64 r.kind, .string r.key, .int .i64 r.n, .int .i64 r.sid, .slice sa sl sc, .int .i64 r.colour, .slice la ll lc, .int .i64 r.t.hot, .int .i64 r.t.warm, .int .i64 r.t.gap, .int .i64 r.t.add, .int .i64 r.t.top, .int .i64 r.t.half]] w _
 rw [h1] at g0 hw1 HP ⊢
 rename_i HPO
 clear u1 b1 h1 HPO
 go_enter Tryz.func23, Tryz.ntmps23
 go_wp2_with fail
 rw [← hw1]
 clear hw1
 refine HP.out.mono ?_
 rintro e w2 ⟨x, rfl, h2⟩
 have H2 := hid h2
 clear h2
 go_wp2
 go_ret
 exact ⟨x, rfl, H2.out⟩
set_option maxRecDepth 10000 in
set_option maxHeartbeats 4000000 in
theorem change_5 (p : Nat) (w : World) (r : Rc) (h1 : r.kind = 5) (sv lv : Value) (hsv : ∃ a l c, sv = .slice a l c) (hlv : ∃ a l c, lv = .slice a l c) (P : Int → World → Prop) (HP : ∀ V, Up Nul w V → Calls Tryz.prog 68 #[.pointer (some ⟨p, 0, none⟩), .agg #[.int .i64 r.kind, .string r.key, .int .i64 r.n, .int .i64 r.sid, sv, .int .i64 r.colour, lv, .int .i64 r.t.hot, .int .i64 r.t.warm, .int .i64 r.t.gap, .int .i64 r.t.add, .int .i64 r.t.top, .int .i64 r.t.half]] V fun e w' => ∃ x, e = .returned (.int .i64 x) ∧ P x w') :
  Calls Tryz.prog 23 #[.pointer (some ⟨p, 0, none⟩), rv r sv lv] w fun e w' => ∃ x, e = .returned (.int .i64 x) ∧ P x w' := by
 obtain ⟨w1, hw1⟩ : ∃ W, W = w.alloc (.cells #[.int .i64 r.kind, .string r.key, .int .i64 r.n, .int .i64 r.sid, sv, .int .i64 r.colour, lv, .int .i64 r.t.hot, .int .i64 r.t.warm, .int .i64 r.t.gap, .int .i64 r.t.add, .int .i64 r.t.top, .int .i64 r.t.half] 28) := ⟨_, rfl⟩
 have u1 : Up Nul w w1 := by rw [hw1]; exact (Up.refl _ _).alloc _
 have b1 : w1.heap[w.heap.size]? = some (.cells #[.int .i64 r.kind, .string r.key, .int .i64 r.n, .int .i64 r.sid, sv, .int .i64 r.colour, lv, .int .i64 r.t.hot, .int .i64 r.t.warm, .int .i64 r.t.gap, .int .i64 r.t.add, .int .i64 r.t.top, .int .i64 r.t.half] 28 (0, 0)) := by rw [hw1]; exact heap_alloc_new _ _
 have HP := hid (HP w1 u1)
 obtain ⟨sa, sl, sc, rfl⟩ := hsv
 obtain ⟨la, ll, lc, rfl⟩ := hlv
 have g0 : w1.cell? ⟨w.heap.size, 0, none⟩ = some (.int .i64 r.kind) := by simp [World.cell?, b1]
 have g1 : w1.cell? ⟨w.heap.size, 1, none⟩ = some (.string r.key) := by simp [World.cell?, b1]
 have g2 : w1.cell? ⟨w.heap.size, 2, none⟩ = some (.int .i64 r.n) := by simp [World.cell?, b1]
 have g3 : w1.cell? ⟨w.heap.size, 3, none⟩ = some (.int .i64 r.sid) := by simp [World.cell?, b1]
 have g4 : w1.cell? ⟨w.heap.size, 4, none⟩ = some (Value.slice sa sl sc) := by simp [World.cell?, b1]
 have g5 : w1.cell? ⟨w.heap.size, 5, none⟩ = some (.int .i64 r.colour) := by simp [World.cell?, b1]
 have g6 : w1.cell? ⟨w.heap.size, 6, none⟩ = some (Value.slice la ll lc) := by simp [World.cell?, b1]
 have g7 : w1.cell? ⟨w.heap.size, 7, none⟩ = some (.int .i64 r.t.hot) := by simp [World.cell?, b1]
 have g8 : w1.cell? ⟨w.heap.size, 8, none⟩ = some (.int .i64 r.t.warm) := by simp [World.cell?, b1]
 have g9 : w1.cell? ⟨w.heap.size, 9, none⟩ = some (.int .i64 r.t.gap) := by simp [World.cell?, b1]
 have g10 : w1.cell? ⟨w.heap.size, 10, none⟩ = some (.int .i64 r.t.add) := by simp [World.cell?, b1]
 have g11 : w1.cell? ⟨w.heap.size, 11, none⟩ = some (.int .i64 r.t.top) := by simp [World.cell?, b1]
 have g12 : w1.cell? ⟨w.heap.size, 12, none⟩ = some (.int .i64 r.t.half) := by simp [World.cell?, b1]
 show Calls Tryz.prog 23 #[.pointer (some ⟨p, 0, none⟩), .agg #[.int .i64 r.kind, .string r.key, .int .i64 r.n, .int .i64 r.sid, .slice sa sl sc, .int .i64 r.colour, .slice la ll lc, .int .i64 r.t.hot, .int .i64 r.t.warm, .int .i64 r.t.gap, .int .i64 r.t.add, .int .i64 r.t.top, .int .i64 r.t.half]] w _
 rw [h1] at g0 hw1 HP ⊢
 rename_i HPO
 clear u1 b1 h1 HPO
 go_enter Tryz.func23, Tryz.ntmps23
 go_wp2_with fail
 rw [← hw1]
 clear hw1
 refine HP.out.mono ?_
 rintro e w2 ⟨x, rfl, h2⟩
 have H2 := hid h2
 clear h2
 go_wp2
 go_ret
 exact ⟨x, rfl, H2.out⟩
set_option maxRecDepth 10000 in
set_option maxHeartbeats 4000000 in
theorem change_6 (p : Nat) (w : World) (r : Rc) (h1 : r.kind = 6) (sv lv : Value) (hsv : ∃ a l c, sv = .slice a l c) (hlv : ∃ a l c, lv = .slice a l c) (P : Int → World → Prop) (HP : ∀ V, Up Nul w V → Calls Tryz.prog 69 #[.pointer (some ⟨p, 0, none⟩), .agg #[.int .i64 r.kind, .string r.key, .int .i64 r.n, .int .i64 r.sid, sv, .int .i64 r.colour, lv, .int .i64 r.t.hot, .int .i64 r.t.warm, .int .i64 r.t.gap, .int .i64 r.t.add, .int .i64 r.t.top, .int .i64 r.t.half]] V fun e w' => ∃ x, e = .returned (.int .i64 x) ∧ P x w') :
  Calls Tryz.prog 23 #[.pointer (some ⟨p, 0, none⟩), rv r sv lv] w fun e w' => ∃ x, e = .returned (.int .i64 x) ∧ P x w' := by
 obtain ⟨w1, hw1⟩ : ∃ W, W = w.alloc (.cells #[.int .i64 r.kind, .string r.key, .int .i64 r.n, .int .i64 r.sid, sv, .int .i64 r.colour, lv, .int .i64 r.t.hot, .int .i64 r.t.warm, .int .i64 r.t.gap, .int .i64 r.t.add, .int .i64 r.t.top, .int .i64 r.t.half] 28) := ⟨_, rfl⟩
 have u1 : Up Nul w w1 := by rw [hw1]; exact (Up.refl _ _).alloc _
 have b1 : w1.heap[w.heap.size]? = some (.cells #[.int .i64 r.kind, .string r.key, .int .i64 r.n, .int .i64 r.sid, sv, .int .i64 r.colour, lv, .int .i64 r.t.hot, .int .i64 r.t.warm, .int .i64 r.t.gap, .int .i64 r.t.add, .int .i64 r.t.top, .int .i64 r.t.half] 28 (0, 0)) := by rw [hw1]; exact heap_alloc_new _ _
 have HP := hid (HP w1 u1)
 obtain ⟨sa, sl, sc, rfl⟩ := hsv
 obtain ⟨la, ll, lc, rfl⟩ := hlv
 have g0 : w1.cell? ⟨w.heap.size, 0, none⟩ = some (.int .i64 r.kind) := by simp [World.cell?, b1]
 have g1 : w1.cell? ⟨w.heap.size, 1, none⟩ = some (.string r.key) := by simp [World.cell?, b1]
 have g2 : w1.cell? ⟨w.heap.size, 2, none⟩ = some (.int .i64 r.n) := by simp [World.cell?, b1]
 have g3 : w1.cell? ⟨w.heap.size, 3, none⟩ = some (.int .i64 r.sid) := by simp [World.cell?, b1]
 have g4 : w1.cell? ⟨w.heap.size, 4, none⟩ = some (Value.slice sa sl sc) := by simp [World.cell?, b1]
 have g5 : w1.cell? ⟨w.heap.size, 5, none⟩ = some (.int .i64 r.colour) := by simp [World.cell?, b1]
 have g6 : w1.cell? ⟨w.heap.size, 6, none⟩ = some (Value.slice la ll lc) := by simp [World.cell?, b1]
 have g7 : w1.cell? ⟨w.heap.size, 7, none⟩ = some (.int .i64 r.t.hot) := by simp [World.cell?, b1]
 have g8 : w1.cell? ⟨w.heap.size, 8, none⟩ = some (.int .i64 r.t.warm) := by simp [World.cell?, b1]
 have g9 : w1.cell? ⟨w.heap.size, 9, none⟩ = some (.int .i64 r.t.gap) := by simp [World.cell?, b1]
 have g10 : w1.cell? ⟨w.heap.size, 10, none⟩ = some (.int .i64 r.t.add) := by simp [World.cell?, b1]
 have g11 : w1.cell? ⟨w.heap.size, 11, none⟩ = some (.int .i64 r.t.top) := by simp [World.cell?, b1]
 have g12 : w1.cell? ⟨w.heap.size, 12, none⟩ = some (.int .i64 r.t.half) := by simp [World.cell?, b1]
 show Calls Tryz.prog 23 #[.pointer (some ⟨p, 0, none⟩), .agg #[.int .i64 r.kind, .string r.key, .int .i64 r.n, .int .i64 r.sid, .slice sa sl sc, .int .i64 r.colour, .slice la ll lc, .int .i64 r.t.hot, .int .i64 r.t.warm, .int .i64 r.t.gap, .int .i64 r.t.add, .int .i64 r.t.top, .int .i64 r.t.half]] w _
 rw [h1] at g0 hw1 HP ⊢
 rename_i HPO
 clear u1 b1 h1 HPO
 go_enter Tryz.func23, Tryz.ntmps23
 go_wp2_with fail
 rw [← hw1]
 clear hw1
 refine HP.out.mono ?_
 rintro e w2 ⟨x, rfl, h2⟩
 have H2 := hid h2
 clear h2
 go_wp2
 go_ret
 exact ⟨x, rfl, H2.out⟩
set_option maxRecDepth 10000 in
set_option maxHeartbeats 4000000 in
theorem change_7 (p : Nat) (w : World) (r : Rc) (h1 : r.kind = 7) (sv lv : Value) (hsv : ∃ a l c, sv = .slice a l c) (hlv : ∃ a l c, lv = .slice a l c) (P : Int → World → Prop) (HP : ∀ V, Up Nul w V → Calls Tryz.prog 70 #[.pointer (some ⟨p, 0, none⟩), .agg #[.int .i64 r.kind, .string r.key, .int .i64 r.n, .int .i64 r.sid, sv, .int .i64 r.colour, lv, .int .i64 r.t.hot, .int .i64 r.t.warm, .int .i64 r.t.gap, .int .i64 r.t.add, .int .i64 r.t.top, .int .i64 r.t.half]] V fun e w' => ∃ x, e = .returned (.int .i64 x) ∧ P x w') :
  Calls Tryz.prog 23 #[.pointer (some ⟨p, 0, none⟩), rv r sv lv] w fun e w' => ∃ x, e = .returned (.int .i64 x) ∧ P x w' := by
 obtain ⟨w1, hw1⟩ : ∃ W, W = w.alloc (.cells #[.int .i64 r.kind, .string r.key, .int .i64 r.n, .int .i64 r.sid, sv, .int .i64 r.colour, lv, .int .i64 r.t.hot, .int .i64 r.t.warm, .int .i64 r.t.gap, .int .i64 r.t.add, .int .i64 r.t.top, .int .i64 r.t.half] 28) := ⟨_, rfl⟩
 have u1 : Up Nul w w1 := by rw [hw1]; exact (Up.refl _ _).alloc _
 have b1 : w1.heap[w.heap.size]? = some (.cells #[.int .i64 r.kind, .string r.key, .int .i64 r.n, .int .i64 r.sid, sv, .int .i64 r.colour, lv, .int .i64 r.t.hot, .int .i64 r.t.warm, .int .i64 r.t.gap, .int .i64 r.t.add, .int .i64 r.t.top, .int .i64 r.t.half] 28 (0, 0)) := by rw [hw1]; exact heap_alloc_new _ _
 have HP := hid (HP w1 u1)
 obtain ⟨sa, sl, sc, rfl⟩ := hsv
 obtain ⟨la, ll, lc, rfl⟩ := hlv
 have g0 : w1.cell? ⟨w.heap.size, 0, none⟩ = some (.int .i64 r.kind) := by simp [World.cell?, b1]
 have g1 : w1.cell? ⟨w.heap.size, 1, none⟩ = some (.string r.key) := by simp [World.cell?, b1]
 have g2 : w1.cell? ⟨w.heap.size, 2, none⟩ = some (.int .i64 r.n) := by simp [World.cell?, b1]
 have g3 : w1.cell? ⟨w.heap.size, 3, none⟩ = some (.int .i64 r.sid) := by simp [World.cell?, b1]
 have g4 : w1.cell? ⟨w.heap.size, 4, none⟩ = some (Value.slice sa sl sc) := by simp [World.cell?, b1]
 have g5 : w1.cell? ⟨w.heap.size, 5, none⟩ = some (.int .i64 r.colour) := by simp [World.cell?, b1]
 have g6 : w1.cell? ⟨w.heap.size, 6, none⟩ = some (Value.slice la ll lc) := by simp [World.cell?, b1]
 have g7 : w1.cell? ⟨w.heap.size, 7, none⟩ = some (.int .i64 r.t.hot) := by simp [World.cell?, b1]
 have g8 : w1.cell? ⟨w.heap.size, 8, none⟩ = some (.int .i64 r.t.warm) := by simp [World.cell?, b1]
 have g9 : w1.cell? ⟨w.heap.size, 9, none⟩ = some (.int .i64 r.t.gap) := by simp [World.cell?, b1]
 have g10 : w1.cell? ⟨w.heap.size, 10, none⟩ = some (.int .i64 r.t.add) := by simp [World.cell?, b1]
 have g11 : w1.cell? ⟨w.heap.size, 11, none⟩ = some (.int .i64 r.t.top) := by simp [World.cell?, b1]
 have g12 : w1.cell? ⟨w.heap.size, 12, none⟩ = some (.int .i64 r.t.half) := by simp [World.cell?, b1]
 show Calls Tryz.prog 23 #[.pointer (some ⟨p, 0, none⟩), .agg #[.int .i64 r.kind, .string r.key, .int .i64 r.n, .int .i64 r.sid, .slice sa sl sc, .int .i64 r.colour, .slice la ll lc, .int .i64 r.t.hot, .int .i64 r.t.warm, .int .i64 r.t.gap, .int .i64 r.t.add, .int .i64 r.t.top, .int .i64 r.t.half]] w _
 rw [h1] at g0 hw1 HP ⊢
 rename_i HPO
 clear u1 b1 h1 HPO
 go_enter Tryz.func23, Tryz.ntmps23
 go_wp2_with fail
 rw [← hw1]
 clear hw1
 refine HP.out.mono ?_
 rintro e w2 ⟨x, rfl, h2⟩
 have H2 := hid h2
 clear h2
 go_wp2
 go_ret
 exact ⟨x, rfl, H2.out⟩
end Go.Proofs.YtepggchnhgpcnaaGreatDoor
