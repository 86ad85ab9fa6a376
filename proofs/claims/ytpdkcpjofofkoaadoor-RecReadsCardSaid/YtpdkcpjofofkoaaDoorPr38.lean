/- The law's 'loc'. -/
import Derived.Test.YtpdkcpjofofkoaaDoorPkTidy
import Derived.Test.YtpdkcpjofofkoaaDoorPq3
import Derived.Test.YtpdkcpjofofkoaaDoorPq2
namespace Go.Proofs.YtpdkcpjofofkoaaDoor
open Go.RowKit
set_option linter.unusedVariables false
set_option linter.unusedSimpArgs false

/-- While a Loc is made at block r. -/
structure Ls (W0 W : World) (A Lb F r k : Nat) (zs : List Int) (C : Array Value) : Prop where
 nx : Nx W A Lb k zs
 cl : W.heap[F]? = some (.cells #[nextV A Lb] 46 (0, 0))
 pc : W.heap[r]? = some (.cells C 31 (0, 0))
 up : Up (One A) W0 W
 ne : A ≠ F ∧ A ≠ r ∧ F ≠ r ∧ r ≠ Lb ∧ A ≤ r ∧ W0.heap.size ≤ r
section
variable {W0 W W' : World} {A Lb F r k k' : Nat} {zs : List Int} {C : Array Value}
theorem Ls.clc (h : Ls W0 W A Lb F r k zs C) : W.cell? ⟨F, 0, none⟩ = some (nextV A Lb) := by simp [World.cell?, h.cl]
theorem Ls.call (h : Ls W0 W A Lb F r k zs C) (n : Nx W' A Lb k' zs) (u : Up (One A) W W') : Ls W0 W' A Lb F r k' zs C :=
 ⟨n, (u.block F (Array.getElem?_eq_some_iff.1 h.cl).1 fun e => h.ne.1 e.symm).trans h.cl, (u.block r (Array.getElem?_eq_some_iff.1 h.pc).1 fun e => h.ne.2.1 e.symm).trans h.pc, h.up.trans u, h.ne⟩
theorem Ls.drew (h : Ls W0 W A Lb F r k zs C) : Ls W0 W.drew A Lb F r k zs C := ⟨h.nx.nxt (Up.refl Nul W).drew, h.cl, h.pc, h.up.drew, h.ne⟩
theorem Ls.set (h : Ls W0 W A Lb F r k zs C) (i : Nat) (v : Value) : Ls W0 (W.setCell ⟨r, i, none⟩ v) A Lb F r k zs (C.setIfInBounds i v) := by
 have u : Up (One r) W (W.setCell ⟨r, i, none⟩ v) := (Up.refl (One r) W).put rfl i v
 exact ⟨h.nx.keep h.nx.le u ((u.block A (Array.getElem?_eq_some_iff.1 h.nx.at_).1 h.ne.2.1).trans h.nx.at_) (fun j e => by have e : j = r := e; subst e; exact ⟨h.ne.2.2.2.2.1, h.ne.2.2.2.1⟩),
  (u.block F (Array.getElem?_eq_some_iff.1 h.cl).1 h.ne.2.2.1).trans h.cl, heap_set_same h.pc i v, h.up.setCell (.inl h.ne.2.2.2.2.2) v, h.ne⟩
theorem Ls.cells (h : Ls W0 W A Lb F r k zs C) {i : Nat} {v : Value} (hv : C[i]? = some v) : W.cell? ⟨r, i, none⟩ = some v ∧ W.frozen? ⟨r, i, none⟩ = false := ⟨by simp [World.cell?, h.pc, hv], by simp [World.frozen?, h.pc]⟩
end
set_option maxHeartbeats 1000000 in
theorem locL_any (W : World) (A Lb F k : Nat) (zs : List Int) (h : Nx W A Lb k zs) (hc : W.heap[F]? = some (.cells #[nextV A Lb] 46 (0, 0))) (hF : A ≠ F) (hk : k + 3 ≤ 1000) (hL : Lb < W.heap.size) :
  Calls Tryd.prog 17 #[.pointer (some ⟨F, 0, none⟩)] W fun e w' => ∃ d s i : Nat, e = .returned (.agg #[.int .i64 (d : Nat), .int .i64 (s : Nat), .int .i64 (i : Nat)]) ∧ (d ≤ 23 ∧ s ≤ 63 ∧ 1 ≤ i ∧ i ≤ 1000) ∧ Nx w' A Lb (k + 3) zs ∧ Up (One A) W w' := by
 obtain ⟨W1, hW1⟩ : ∃ w, w = W.alloc (.cells #[.int .i64 0, .int .i64 0, .int .i64 0] 31) := ⟨_, rfl⟩
 have U1 : Up Nul W W1 := by rw [hW1]; exact (Up.refl Nul W).alloc _
 have hA := (Array.getElem?_eq_some_iff.1 h.at_).1
 have hFl := (Array.getElem?_eq_some_iff.1 hc).1
 obtain ⟨r, R⟩ : ∃ r, Hid (W.heap.size = r) := ⟨_, rfl⟩
 have HR : Hid (Ls W W1 A Lb F r k zs #[.int .i64 0, .int .i64 0, .int .i64 0]) := ⟨h.nxt U1, (U1.block F hFl id).trans hc, by rw [hW1, ← R.out]; exact heap_alloc_new _ _, U1.nul, by have := R.out; omega⟩
 have HKK := hid hk
 clear h hc hF hL U1 hA hFl hk
 go_enter Tryd.func17, Tryd.ntmps17
 go_wp2_with fail
 rw [← hW1, R.out]
 clear hW1
 have HR := hid HR.out.drew
 refine wp_region_held_drew (S := (fun W => W.cell? ⟨F, 0, none⟩ = some (nextV A Lb))) (by kernel_rfl) (by exact HR.out.clc) (fun hHeld => ?_)
 refine tkl 0 (some 2) ?vl1 rfl ?yl1 ?rl1
 case yl1 => (intro w hSw; (try dsimp only at hSw); go_simp; try with_reducible rfl)
 try simp only [tdy]
 refine tkl 2 (some 4) ?vl2 rfl ?yl2 ?rl2
 case yl2 => (intro w hSw; (try dsimp only at hSw); go_simp; try with_reducible rfl)
 try simp only [tdy]
 refine tkl 4 (some 6) ?vl3 rfl ?yl3 ?rl3
 case yl3 => (intro w hSw; (try dsimp only at hSw); go_simp; try with_reducible rfl)
 try simp only [tdy]
 refine one 1 (some 3) rfl (fun K hK => ?_)
 go_simp
 go_at_call 16
 refine (nxt_int _ A Lb _ _ zs HR.out.nx (by omega) (by omega) (by have := HKK.out; omega)).mono ?_
 rintro e wc ⟨x3, rfl, h3, hn, hu⟩
 have HR := hid (HR.out.call hn hu)
 clear hn hu
 have v3 : IntKind.i64.wrap ((x3 : Int) + 1) = (x3 : Int) + 1 := IntWalk.i64_in _ (by omega)
 refine hK.out _ _ ?kl4x (fun hHeld => ?_)
 case kl4x => exact HR.out.clc
 clear hK K
 try simp only [tdy]
 refine one 3 (some 5) rfl (fun K hK => ?_)
 go_simp
 go_at_call 16
 refine (nxt_int _ A Lb _ _ zs HR.out.nx (by omega) (by omega) (by have := HKK.out; omega)).mono ?_
 rintro e wc ⟨x5, rfl, h5, hn, hu⟩
 have HR := hid (HR.out.call hn hu)
 clear hn hu
 have v5 : IntKind.i64.wrap ((x5 : Int) + 1) = (x5 : Int) + 1 := IntWalk.i64_in _ (by omega)
 refine hK.out _ _ ?kl5x (fun hHeld => ?_)
 case kl5x => exact HR.out.clc
 clear hK K
 try simp only [tdy]
 refine one 5 (some 7) rfl (fun K hK => ?_)
 go_simp
 go_at_call 16
 refine (nxt_int _ A Lb _ _ zs HR.out.nx (by omega) (by omega) (by have := HKK.out; omega)).mono ?_
 rintro e wc ⟨x7, rfl, h7, hn, hu⟩
 have HR := hid (HR.out.call hn hu)
 clear hn hu
 have v7 : IntKind.i64.wrap ((x7 : Int) + 1) = (x7 : Int) + 1 := IntWalk.i64_in _ (by omega)
 refine hK.out _ _ ?kl6x (fun hHeld => ?_)
 case kl6x => exact HR.out.clc
 clear hK K
 try simp only [tdy]
 refine tkl 6 (some 8) ?vl7 rfl ?yl7 ?rl7
 case yl7 => (intro w hSw; (try dsimp only at hSw); go_simp; try with_reducible rfl)
 try simp only [tdy]
 refine tkl 7 (some 9) ?vl8 rfl ?yl8 ?rl8
 case yl8 => (intro w hSw; (try dsimp only at hSw); go_simp; try with_reducible rfl)
 try simp only [tdy]
 have c0 := HR.out.cells (i := 0) rfl
 obtain ⟨c0, f0⟩ := c0
 have c1 := HR.out.cells (i := 1) rfl
 obtain ⟨c1, f1⟩ := c1
 have c2 := HR.out.cells (i := 2) rfl
 obtain ⟨c2, f2⟩ := c2
 refine one 8 none rfl (fun K hK => ?_)
 go_simp
 have HR := hid (((HR.out.set 0 (.int .i64 (x3 : Nat))).set 1 (.int .i64 (x5 : Nat))).set 2 (.int .i64 ((x7 : Int) + 1)))
 refine hK.out _ _ ?kl9x (fun hHeld => ?_)
 case kl9x => exact HR.out.clc
 clear hK K
 try simp only [tdy]
 refine wpAnyH_done (by kernel_rfl) ?_ _
 go_wp2_with fail
 refine bodyPost_ret (results_cell_row (P := Tryd.prog) (ty := 31) rfl _ _ r _ _ _ _ rfl HR.out.pc Tryd.underlying31 rfl info_loc3) rfl ?_
 exact ⟨x3, x5, x7 + 1, rfl, by omega, HR.out.nx, HR.out.up⟩
end Go.Proofs.YtpdkcpjofofkoaaDoor
