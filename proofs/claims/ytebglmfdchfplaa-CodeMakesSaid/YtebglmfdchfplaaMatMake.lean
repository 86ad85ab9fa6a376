/- 'New', 'Cells', 'At' of a Matrix. -/
import Derived.Test.YtebglmfdchfplaaMatBytes
namespace Go.Proofs.Ytebglmfdchfplaa
open Go.RowKit
set_option linter.unusedVariables false

theorem new_nil (r c : Int) (sl : Value) (w : World) :
    Calls Try.prog 33 #[.pointer none, .int .i64 r, .int .i64 c, sl] w fun e w' => e = .returned (.tuple #[.pointer none, .int .i64 1]) ∧ w' = w := by
  go_enter Try.func33, Try.ntmps33
  go_wp2_with ((go_at_call 51; (with_reducible refine (blank_nil r c _).mono ?_); rintro e w1 ⟨rfl, rfl⟩))
  go_ret2
  exact ⟨rfl, rfl⟩
theorem new_out (F : Nat) (r c : Int) (sl : Value) (w : World) (h : ¬ (1 ≤ r ∧ r ≤ 32 ∧ 1 ≤ c ∧ c ≤ 32)) :
    Calls Try.prog 33 #[.pointer (some ⟨F, 0, none⟩), .int .i64 r, .int .i64 c, sl] w fun e w' => e = .returned (.tuple #[.pointer none, .int .i64 1]) ∧ w' = w := by
  have H : Hid _ := blank_out F r c w h
  have H := hid (blank_out F r c w h)
  clear h
  go_enter Try.func33, Try.ntmps33
  go_wp2_with ((go_at_call 51; (with_reducible refine H.out.mono ?_); rintro e w1 ⟨rfl, rfl⟩))
  go_ret2
  exact ⟨rfl, rfl⟩
theorem Newm.up1 {w w' : World} {F r c : Nat} {z : List Nat} (h : Newm w w' F r c z) (S : Nat → Prop) : Up S w w' := h.up.nul
/-- Cells that are too few or too many. -/
theorem new_len (F r c n cap : Nat) (a : Option Addr) (w : World) (hF : F < w.heap.size) (r1 : 1 ≤ r) (r2 : r ≤ 32) (c1 : 1 ≤ c) (c2 : c ≤ 32) (hn : n ≠ r * c) :
    Calls Try.prog 33 #[.pointer (some ⟨F, 0, none⟩), .int .i64 r, .int .i64 c, .slice a n cap] w fun e w' => e = .returned (.tuple #[.pointer none, .int .i64 1]) ∧ Up Nul w w' := by
  have H := hid (blank_good F r c w hF r1 r2 c1 c2)
  obtain ⟨m, M⟩ : ∃ m, m = r * c := ⟨_, rfl⟩
  rw [← M] at hn
  have hd : ((n : Int) == (m : Int)) = false := by simp; omega
  have hd2 : ((n : Int) != (m : Int)) = true := by simp; omega
  have HM : Hid (m = r * c) := M
  clear M hn
  go_enter Try.func33, Try.ntmps33
  go_wp2_with fail
  refine H.out.mono ?_
  rintro e w1 ⟨rfl, k1⟩
  have h3 := k1.mat.cells
  rw [← HM.out] at h3
  have K1 := hid k1.up
  clear k1
  go_wp2
  go_ret2
  exact ⟨rfl, K1.out⟩

set_option maxHeartbeats 400000 in
/-- A Matrix of cells. -/
theorem new_good (F r c n b o cap : Nat) (z : List Nat) (w : World) (hF : F < w.heap.size) (r1 : 1 ≤ r) (r2 : r ≤ 32) (c1 : 1 ≤ c) (c2 : c ≤ 32) (hz : Row w b o z) (hb : b < w.heap.size) (hl : z.length = n) (hn : n = r * c) :
    Calls Try.prog 33 #[.pointer (some ⟨F, 0, none⟩), .int .i64 r, .int .i64 c, .slice (some ⟨b, o, none⟩) n cap] w
      fun e w' => e = .returned (.tuple #[.pointer (some ⟨w.heap.size + 1, 0, none⟩), .int .i64 0]) ∧ Newm w w' F r c z := by
  have H := hid (blank_good F r c w hF r1 r2 c1 c2)
  have HN := hid hn
  have HZ := hid hz
  have HL := hid hl
  have HB := hid hb
  clear hn hz hl hb
  go_enter Try.func33, Try.ntmps33
  go_wp2_with fail
  refine H.out.mono ?_
  rintro e w1 ⟨rfl, k1⟩
  have h3 := k1.mat.cells
  rw [← HN.out] at h3
  have hbk := k1.mat.blk
  rw [← HN.out] at hbk
  have HBK := hid hbk
  have hz1 := HZ.out.up k1.up HB.out id
  have HZ1 := hid hz1
  have K1 := hid k1
  clear k1 hz1 hbk
  go_wp2_with ((with_reducible refine wpList_copy_bytes rfl (.tmp 33) (.tmp 34) rfl w.heap.size 0 n n n b o cap (zer n) z HBK.out HZ1.out HL.out (Nat.le_refl _) (by rw [zer_length]; omega) rfl rfl ?_); intro w2 H1 H2)
  go_ret2
  refine ⟨rfl, ?_⟩
  have k1 := K1.out
  have e : over (zer n) 0 z = z := by
    simp [over, zer, HL.out]
  have h1 := H1.out
  rw [e] at h1
  have hs := k1.size
  have hne : w.heap.size + 1 ≠ w.heap.size := by omega
  have hu : ∀ j, w2.cell? ⟨w.heap.size + 1, j, none⟩ = w1.cell? ⟨w.heap.size + 1, j, none⟩ := fun j => H2.out.1.cell (p := ⟨w.heap.size + 1, j, none⟩) k1.mat.pl hne
  refine ⟨{ k1.mat with f := (hu 0).trans k1.mat.f, rows := (hu 1).trans k1.mat.rows, cols := (hu 2).trans k1.mat.cols, cells := (hu 3).trans k1.mat.cells, blk := h1, len := by rw [HL.out, HN.out], pl := Nat.lt_of_lt_of_le k1.mat.pl H2.out.1.size }, ?_, ?_⟩
  · have hu2 := H2.out.1
    exact ⟨hu2.os.trans k1.up.os, hu2.tape.trans k1.up.tape, hu2.output.trans k1.up.output, Nat.le_trans k1.up.size hu2.size, fun k hk hs => (hu2.block k (Nat.lt_of_lt_of_le hk k1.up.size) (by unfold One; omega)).trans (k1.up.block k hk hs)⟩
  · rw [H2.out.2, hs]

set_option maxRecDepth 100000 in
set_option maxHeartbeats 400000 in
theorem clone_any (b o n cap : Nat) (z : List Nat) (w : World) (hz : Row w b o z) (hb : b < w.heap.size) (hl : z.length = n) (hn : 0 < n) (hm : n ≤ 2000) :
    Calls Try.prog 54 #[.slice (some ⟨b, o, none⟩) n cap] w fun e w' => ∃ g cap', e = .returned (.slice (some ⟨g, 0, none⟩) n cap') ∧ Row w' g 0 z ∧ w.heap.size ≤ g ∧ g < w'.heap.size ∧ Up Nul w w' := by
  have HZ := hid hz
  have HB := hid hb
  have HL := hid hl
  have heq : ∀ w, (binOp BinOp.eql 22 (.slice (some ⟨b, o, none⟩) n cap) (.slice none 0 0)).run Try.prog w = .ok (.bool false) w := fun _ => by kernel_rfl
  have HO := hid (OwnB.fresh w.heap.size w (Nat.le_refl _))
  have HR : Hid (Row (w.alloc (.cells #[] 5)) b o z) := hz.up ((Up.refl Nul w).alloc _) hb id
  clear hz hb hl
  go_enter Try.func54, Try.ntmps54
  go_wp2_with (first
    | (at_builtin; (refine wpList_append_bytes rfl (.tmp 5) (.tmp 6) rfl w.heap.size _ [] rfl HO.out b o n cap z rfl HR.out HL.out (by simp; omega) (by simp) ?_); intro v' w2 H1 H2)
    | go_in)
  have h1 := H1.out
  rw [List.nil_append] at h1
  have hl := HL.out
  obtain ⟨g, cap', rfl, g1, g2, g3, g4, g5⟩ := h1.row (by omega)
  rw [hl]
  have G := hid (And.intro g1 (And.intro g2 g3))
  have hu : Up Nul w w2 := ((Up.refl Nul w).alloc _).grown H2.out fun k hk => by
    have : w.heap.size = k := by simpa [Value.ownBlock, Act.eval] using hk
    omega
  have HU := hid hu
  clear h1 hl g1 g2 g3 g4 g5 hu
  go_ret
  exact ⟨g, cap', rfl, G.out.2.2, G.out.1, G.out.2.1, HU.out⟩

theorem cells_any (p q F r c : Nat) (z : List Nat) (w : World) (hm : Mat w p q F r c z) :
    Calls Try.prog 34 #[.pointer (some ⟨p, 0, none⟩)] w fun e w' => ∃ g cap, e = .returned (.slice (some ⟨g, 0, none⟩) (r * c) cap) ∧ Row w' g 0 z ∧ w.heap.size ≤ g ∧ g < w'.heap.size ∧ Up Nul w w' := by
  have h3 := hm.cells
  have hr := hm.blk.row 0 (r * c) (by rw [hm.len]; omega)
  have e : (z.drop 0).take (r * c) = z := by rw [List.drop_zero, List.take_of_length_le (by rw [hm.len]; exact Nat.le_refl _)]
  rw [e] at hr
  have hmo := hm.most
  have hp := Nat.mul_le_mul hm.r1 hm.c1
  have H := fun k => hid (clone_any q 0 (r * c) k z w hr hm.ql hm.len (by omega) (by omega))
  generalize r * c = n at *
  clear hm hr e
  go_enter Try.func34, Try.ntmps34
  go_wp2_with ((go_at_call 54; (with_reducible refine (H n).out.mono ?_); rintro e w1 ⟨g, cap, rfl, k1⟩; have K1 := hid k1; clear k1))
  go_ret
  exact ⟨g, cap, rfl, K1.out⟩

/-- No cell there. -/
theorem at_none (p q F r c : Nat) (i j : Int) (z : List Nat) (w : World) (hm : Mat w p q F r c z) (h : i < 0 ∨ (r : Int) ≤ i ∨ j < 0 ∨ (c : Int) ≤ j) :
    Calls Try.prog 43 #[.pointer (some ⟨p, 0, none⟩), .int .i64 i, .int .i64 j] w fun e w' => e = .returned (.int .u8 0) ∧ w' = w := by
  have h1 := hm.rows
  have h2 := hm.cols
  clear hm
  rcases h with h | h
  · go_enter Try.func43, Try.ntmps43
    go_wp2
    go_ret
    exact ⟨rfl, rfl⟩
  by_cases i0 : i < 0
  · clear h
    go_enter Try.func43, Try.ntmps43
    go_wp2
    go_ret
    exact ⟨rfl, rfl⟩
  rcases h with h | h
  · go_enter Try.func43, Try.ntmps43
    go_wp2
    go_ret
    exact ⟨rfl, rfl⟩
  by_cases i1 : (r : Int) ≤ i
  · clear h
    go_enter Try.func43, Try.ntmps43
    go_wp2
    go_ret
    exact ⟨rfl, rfl⟩
  rcases h with h | h
  · go_enter Try.func43, Try.ntmps43
    go_wp2
    go_ret
    exact ⟨rfl, rfl⟩
  by_cases j0 : j < 0
  · clear h
    go_enter Try.func43, Try.ntmps43
    go_wp2
    go_ret
    exact ⟨rfl, rfl⟩
  · go_enter Try.func43, Try.ntmps43
    go_wp2
    go_ret
    exact ⟨rfl, rfl⟩
/-- The cell there. -/
theorem at_some (p q F r c i j : Nat) (z : List Nat) (w : World) (hm : Mat w p q F r c z) (hi : i < r) (hj : j < c) :
    Calls Try.prog 43 #[.pointer (some ⟨p, 0, none⟩), .int .i64 i, .int .i64 j] w fun e w' => e = .returned (.int .u8 (z.getD (i * c + j) 0 : Nat)) ∧ ∃ n, w' = w.drewN n := by
  have h1 := hm.rows
  have h2 := hm.cols
  have h3 := hm.blk.cell _ (hm.at hi hj)
  have H := hid (row_any p q F r c i z w hm hi)
  generalize z.getD (i * c + j) 0 = x at *
  clear hm
  go_enter Try.func43, Try.ntmps43
  go_wp2_with ((go_at_call 52; (with_reducible refine H.out.mono ?_); rintro e w1 ⟨rfl, m, rfl⟩))
  go_ret
  exact ⟨rfl, _, rfl⟩
end Go.Proofs.Ytebglmfdchfplaa
