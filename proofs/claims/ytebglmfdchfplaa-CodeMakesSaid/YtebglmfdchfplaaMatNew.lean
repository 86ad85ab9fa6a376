/- 'blank', 'New', 'row', 'Size' of a Matrix. -/
import Derived.Test.YtebglmfdchfplaaMatWorld
import Derived.Deep.QuietTactic
import Derived.BigQuiet
namespace Go.Proofs.Ytebglmfdchfplaa
open Go.RowKit
set_option linter.unusedVariables false

theorem outside_in (n : Int) (w : World) (h1 : 1 ≤ n) (h2 : n ≤ 32) :
    Calls Try.prog 68 #[.int .i64 n] w fun e w' => e = .returned (.bool false) ∧ w' = w := by
  go_enter Try.func68, Try.ntmps68
  go_wp2
  go_ret
  have e : (decide (n < 1) || decide (32 < n)) = false := by simp; omega
  exact ⟨congrArg (fun b => Ending.returned (.bool b)) e, rfl⟩
theorem outside_out (n : Int) (w : World) (h : n < 1 ∨ 32 < n) :
    Calls Try.prog 68 #[.int .i64 n] w fun e w' => e = .returned (.bool true) ∧ w' = w := by
  rcases h with h | h
  · go_enter Try.func68, Try.ntmps68
    go_wp2
    go_ret
    exact ⟨rfl, rfl⟩
  · go_enter Try.func68, Try.ntmps68
    go_wp2
    go_ret
    exact ⟨rfl, rfl⟩

theorem blank_nil (r c : Int) (w : World) :
    Calls Try.prog 51 #[.pointer none, .int .i64 r, .int .i64 c] w fun e w' => e = .returned (.tuple #[.pointer none, .int .i64 1]) ∧ w' = w := by
  have hmf : ∀ (fn : Fn) (first cap : Array Value) (w : World), (Instr.makeFunc fn first cap).run Try.prog w = .ok (.func fn first cap) w := fun _ _ _ _ => rfl
  go_enter Try.func51, Try.ntmps51
  go_wp2
  go_ret2
  exact ⟨rfl, rfl⟩
theorem blank_out (F : Nat) (r c : Int) (w : World) (h : ¬ (1 ≤ r ∧ r ≤ 32 ∧ 1 ≤ c ∧ c ≤ 32)) :
    Calls Try.prog 51 #[.pointer (some ⟨F, 0, none⟩), .int .i64 r, .int .i64 c] w fun e w' => e = .returned (.tuple #[.pointer none, .int .i64 1]) ∧ w' = w := by
  have hmf : ∀ (fn : Fn) (first cap : Array Value) (w : World), (Instr.makeFunc fn first cap).run Try.prog w = .ok (.func fn first cap) w := fun _ _ _ _ => rfl
  by_cases hr : 1 ≤ r ∧ r ≤ 32
  · have hc : c < 1 ∨ 32 < c := by omega
    obtain ⟨h1, h2⟩ := hr
    clear h
    go_enter Try.func51, Try.ntmps51
    go_wp2_with (first | (go_at_call 68; (with_reducible refine (outside_in r _ h1 h2).mono ?_); rintro e w1 ⟨rfl, rfl⟩) | (go_at_call 68; (with_reducible refine (outside_out c _ hc).mono ?_); rintro e w1 ⟨rfl, rfl⟩))
    go_ret2
    exact ⟨rfl, rfl⟩
  · have hr : r < 1 ∨ 32 < r := by omega
    clear h
    go_enter Try.func51, Try.ntmps51
    go_wp2_with ((go_at_call 68; (with_reducible refine (outside_out r _ hr).mono ?_); rintro e w1 ⟨rfl, rfl⟩))
    go_ret2
    exact ⟨rfl, rfl⟩

/-- A new Matrix of noughts: two new blocks, nothing that was there turns. -/
structure Newm (w w' : World) (F r c : Nat) (z : List Nat) : Prop where
  mat : Mat w' (w.heap.size + 1) w.heap.size F r c z
  up : Up Nul w w'
  size : w'.heap.size = w.heap.size + 2
theorem newm_made (w : World) (F r c : Nat) (hF : F < w.heap.size) (r1 : 1 ≤ r) (r2 : r ≤ 32) (c1 : 1 ≤ c) (c2 : c ≤ 32) :
    Newm w ((w.alloc (.cells (bys (zer (r * c))) 5)).alloc (.cells #[.pointer (some ⟨F, 0, none⟩), .int .i64 r, .int .i64 c, .slice (some ⟨w.heap.size, 0, none⟩) (r * c) (r * c)] 113)) F r c (zer (r * c)) := by
  have hs : (w.alloc (.cells (bys (zer (r * c))) 5)).heap.size = w.heap.size + 1 := by simp
  have hc := fun j => World.cell?_alloc_new (w.alloc (.cells (bys (zer (r * c))) 5)) #[.pointer (some ⟨F, 0, none⟩), .int .i64 r, .int .i64 c, .slice (some ⟨w.heap.size, 0, none⟩) (r * c) (r * c)] 113 j
  rw [hs] at hc
  refine ⟨⟨hc 0, hc 1, hc 2, hc 3, ((Blk.new w _ (zer_small _)).alloc _), zer_length _, by simp, by omega, by omega, by omega, r1, r2, c1, c2⟩, ((Up.refl Nul w).alloc _).alloc _, by simp⟩

theorem blank_good (F r c : Nat) (w : World) (hF : F < w.heap.size) (r1 : 1 ≤ r) (r2 : r ≤ 32) (c1 : 1 ≤ c) (c2 : c ≤ 32) :
    Calls Try.prog 51 #[.pointer (some ⟨F, 0, none⟩), .int .i64 r, .int .i64 c] w fun e w' => e = .returned (.tuple #[.pointer (some ⟨w.heap.size + 1, 0, none⟩), .int .i64 0]) ∧ Newm w w' F r c (zer (r * c)) := by
  have hmf : ∀ (fn : Fn) (first cap : Array Value) (w : World), (Instr.makeFunc fn first cap).run Try.prog w = .ok (.func fn first cap) w := fun _ _ _ _ => rfl
  have HN : Hid _ := newm_made w F r c hF r1 r2 c1 c2
  have hm := prod_most r2 c2
  have hk : (r : Int) * (c : Int) = ((r * c : Nat) : Int) := by simp
  have hmk := make_bytes w (r * c) (by omega)
  rw [← hk] at hmk
  have hm1 : (r : Int) * (c : Int) ≤ 1024 := by omega
  have hm0 : (0 : Int) ≤ (r : Int) * (c : Int) := by omega
  clear hk
  go_enter Try.func51, Try.ntmps51
  go_wp2_with (first | (go_at_call 68; (with_reducible refine (outside_in r _ (by omega) (by omega)).mono ?_); rintro e w1 ⟨rfl, rfl⟩) | (go_at_call 68; (with_reducible refine (outside_in c _ (by omega) (by omega)).mono ?_); rintro e w1 ⟨rfl, rfl⟩))
  go_ret2
  exact ⟨rfl, HN.out⟩
end Go.Proofs.Ytebglmfdchfplaa
