/- 'Grow' of nothing, 'Concat' of two rows. -/
import Derived.Test.YtebglmfdchfplaaCodeThere
import Derived.Lib.AppendZeros
namespace Go.Proofs.Ytebglmfdchfplaa
open Go.RowKit
set_option linter.unusedVariables false

theorem add_block (a : Addr) (j : Nat) : (a.add j).block = a.block := by unfold Addr.add; split <;> rfl
set_option maxHeartbeats 800000 in
theorem grow_b (n : Nat) (w : World) (n1 : 1 ≤ n) (n2 : n ≤ 2000) :
    Calls Try.prog 46 #[.slice none 0 0, .int .i64 n] w fun e w' => ∃ h cap, e = .returned (.slice (some ⟨h, 0, none⟩) 0 cap) ∧ w'.ownsRow w.heap.size 5 1 (.slice (some ⟨h, 0, none⟩) 0 cap) 0 [] ∧ Up Nul w w' := by
  obtain ⟨i0, hi, hz0, hz2, hz3⟩ := info_parts info_u8
  have hr : ∀ ty, (Builtin.append_ #[22, 3] ty #[.slice none 0 0, .int .i64 n]).run Try.prog w = _ := fun ty =>
    Lib.run_append_nil_zeros (P := Try.prog) w 22 3 ty 5 i0 (.int .u8 0) .i64 .i64 Try.underlying22 Try.underlying3 hi hz0 n (by omega) (by rw [hz2]; omega) (by omega) (by rw [hz3]; omega)
  have hge := grownCap_ge w n 0 5
  have hmx := grownCap_le_maxLen w n 0 5 (by unfold maxLen; omega)
  obtain ⟨gc, GC⟩ : ∃ x, Hid (grownCap w n 0 5 = x) := ⟨_, rfl⟩
  rw [GC.out] at hge hmx
  have HO : Hid ((w.drew.alloc (.cells (Builtin.zeroCells ((.int .u8 0) : Value).cells n ++ Builtin.zeroCells ((.int .u8 0) : Value).cells (gc - n)) 5)).ownsRow w.heap.size 5 1 (.slice (some ⟨w.heap.size, 0, none⟩) 0 gc) 0 []) :=
    World.ownsRow_made w.drew _ gc (Nat.le_refl _) hmx (by
      rw [Array.size_append, size_zeroCells, size_zeroCells]
      show n * 1 + (gc - n) * 1 = gc * 1
      omega)
  have HU : Hid (Up Nul w (w.drew.alloc (.cells (Builtin.zeroCells ((.int .u8 0) : Value).cells n ++ Builtin.zeroCells ((.int .u8 0) : Value).cells (gc - n)) 5))) := ((Up.refl Nul w).drew).alloc _
  rw [GC.out] at hr
  have HR := hid hr
  generalize (w.drew.alloc (.cells (Builtin.zeroCells ((.int .u8 0) : Value).cells n ++ Builtin.zeroCells ((.int .u8 0) : Value).cells (gc - n)) 5)) = wa at *
  have c1 : ¬ ((n : Int) < 0) := by omega
  have c2 : (0 : Int) < (n : Int) := by omega
  have c3 : IntKind.i64.wrap (n : Int) = n := IntWalk.i64_in _ (by omega)
  have c4 : wrap64 (n : Int) = n := by rw [← IntWalk.i64_left]; exact c3
  clear hi hz0 hz2 hz3 hr hmx GC
  go_enter Try.func46, Try.ntmps46
  go_wp2_with (first
    | (at_builtin; refine Lib.wpList_append_run _ rfl (.tmp 20) (.tmp 21) _ _ rfl _ _ rfl rfl _ _ (HR.out _) ?_)
    | go_in)
  go_ret
  exact ⟨_, gc, rfl, HO.out, HU.out⟩

set_option maxHeartbeats 800000 in
theorem grow_s (n : Nat) (w : World) (n1 : 1 ≤ n) (n2 : n ≤ 2000) :
    Calls Try.prog 62 #[.slice none 0 0, .int .i64 n] w fun e w' => ∃ h cap, e = .returned (.slice (some ⟨h, 0, none⟩) 0 cap) ∧ w'.ownsRow w.heap.size 22 1 (.slice (some ⟨h, 0, none⟩) 0 cap) 0 [] ∧ Up Nul w w' := by
  obtain ⟨i0, hi, hz0, hz2, hz3⟩ := info_parts info_sl
  have hr : ∀ ty, (Builtin.append_ #[33, 3] ty #[.slice none 0 0, .int .i64 n]).run Try.prog w = _ := fun ty =>
    Lib.run_append_nil_zeros (P := Try.prog) w 33 3 ty 22 i0 (.slice none 0 0) .i64 .i64 Try.underlying33 Try.underlying3 hi hz0 n (by omega) (by rw [hz2]; omega) (by omega) (by rw [hz3]; omega)
  have hge := grownCap_ge w n 0 22
  have hmx := grownCap_le_maxLen w n 0 22 (by unfold maxLen; omega)
  obtain ⟨gc, GC⟩ : ∃ x, Hid (grownCap w n 0 22 = x) := ⟨_, rfl⟩
  rw [GC.out] at hge hmx
  have HO : Hid ((w.drew.alloc (.cells (Builtin.zeroCells ((.slice none 0 0) : Value).cells n ++ Builtin.zeroCells ((.slice none 0 0) : Value).cells (gc - n)) 22)).ownsRow w.heap.size 22 1 (.slice (some ⟨w.heap.size, 0, none⟩) 0 gc) 0 []) :=
    World.ownsRow_made w.drew _ gc (Nat.le_refl _) hmx (by
      rw [Array.size_append, size_zeroCells, size_zeroCells]
      show n * 1 + (gc - n) * 1 = gc * 1
      omega)
  have HU : Hid (Up Nul w (w.drew.alloc (.cells (Builtin.zeroCells ((.slice none 0 0) : Value).cells n ++ Builtin.zeroCells ((.slice none 0 0) : Value).cells (gc - n)) 22))) := ((Up.refl Nul w).drew).alloc _
  rw [GC.out] at hr
  have HR := hid hr
  generalize (w.drew.alloc (.cells (Builtin.zeroCells ((.slice none 0 0) : Value).cells n ++ Builtin.zeroCells ((.slice none 0 0) : Value).cells (gc - n)) 22)) = wa at *
  have c1 : ¬ ((n : Int) < 0) := by omega
  have c2 : (0 : Int) < (n : Int) := by omega
  have c3 : IntKind.i64.wrap (n : Int) = n := IntWalk.i64_in _ (by omega)
  have c4 : wrap64 (n : Int) = n := by rw [← IntWalk.i64_left]; exact c3
  clear hi hz0 hz2 hz3 hr hmx GC
  go_enter Try.func62, Try.ntmps62
  go_wp2_with (first
    | (at_builtin; refine Lib.wpList_append_run _ rfl (.tmp 20) (.tmp 21) _ _ rfl _ _ rfl rfl _ _ (HR.out _) ?_)
    | go_in)
  go_ret
  exact ⟨_, gc, rfl, HO.out, HU.out⟩

set_option maxHeartbeats 800000 in
/-- Two rows, one behind the other. -/
theorem cat_b (gs b1 b2 o1 o2 n1 n2 c1 c2 : Nat) (z1 z2 : List Nat) (w : World) (h0 : w.cell? ⟨gs, 0, none⟩ = some (.slice (some ⟨b1, o1, none⟩) n1 c1)) (h1 : w.cell? ⟨gs, 1, none⟩ = some (.slice (some ⟨b2, o2, none⟩) n2 c2))
    (r1 : Row w b1 o1 z1) (r2 : Row w b2 o2 z2) (l1 : z1.length = n1) (l2 : z2.length = n2) (k1 : b1 < w.heap.size) (k2 : b2 < w.heap.size) (n11 : 1 ≤ n1) (n12 : n1 ≤ 1024) (n22 : n2 ≤ 512) :
    Calls Try.prog 27 #[.slice (some ⟨gs, 0, none⟩) 2 2] w fun e w' => ∃ v, e = .returned v ∧ OwnB w.heap.size w' v (z1 ++ z2) ∧ Up Nul w w' := by
  have G0 := hid (lt_of_cell h0)
  have HX := hid (And.intro (And.intro (And.intro r1 r2) (And.intro l1 l2)) (And.intro k1 k2))
  have HG := hid (grow_b (n1 + n2) w (by omega) (by omega))
  have e1 : (n1 : Int) + (n2 : Int) = ((n1 + n2 : Nat) : Int) := by simp
  obtain ⟨nn, NN⟩ : ∃ x, Hid (n1 + n2 = x) := ⟨_, rfl⟩
  have hnn : nn ≤ 1536 := by rw [← NN.out]; omega
  rw [NN.out] at e1 HG
  have i1 : ¬ ((n1 : Int) < 0) := by omega
  have i2 : ¬ ((nn : Int) < 0) := by omega
  have HC := hid (And.intro h0 h1)
  clear r1 r2 l1 l2 k1 k2
  go_enter Try.func27, Try.ntmps27
  go_wp2_with fail
  refine wp_loop_rounds 3 ?_
  rw [rounds_succ]
  go_wp2_with fail
  rw [rounds_succ]
  go_wp2_with fail
  rw [rounds_succ]
  go_wp2_with fail
  refine HG.out.mono ?_
  rintro e wg ⟨h, cap, rfl, hown, hu⟩
  have x0 := (hu.cell (p := ⟨gs, 0, none⟩) G0.out id).trans HC.out.1
  have x1 := (hu.cell (p := ⟨gs, 1, none⟩) G0.out id).trans HC.out.2
  have HO := hid (And.intro hown hu)
  clear hown hu HG h0 h1
  go_wp2_with fail
  refine wp_loop_rounds 3 ?_
  rw [rounds_succ]
  go_wp2_with (first
    | (at_builtin; refine wpList_append_bytes rfl (.tmp 31) (.tmp 32) rfl w.heap.size (.slice (some ⟨h, 0, none⟩) 0 cap) [] rfl ⟨HO.out.1, fun _ hx => by cases hx⟩ b1 o1 n1 c1 z1 rfl (HX.out.1.1.1.up HO.out.2 HX.out.2.1 id) HX.out.1.2.1 (by simp; omega) HO.out.2.size ?_; intro v1 w1 H1 H2)
    | go_in)
  have u1 := hid (HO.out.2.grown H2.out fun q hq => (World.ownsRow.lt HO.out.1 q hq).1)
  have y1 := (u1.out.cell (p := ⟨gs, 1, none⟩) G0.out id).trans HC.out.2
  rw [rounds_succ]
  go_wp2_with (first
    | (at_builtin; refine wpList_append_bytes rfl (.tmp 31) (.tmp 32) rfl w.heap.size v1 ([] ++ z1) rfl H1.out b2 o2 n2 c2 z2 rfl (HX.out.1.1.2.up u1.out HX.out.2.2 id) HX.out.1.2.2 (by simp [HX.out.1.2.1]; omega) u1.out.size ?_; intro v2 w2 H3 H4)
    | go_in)
  have u2 := hid (u1.out.grown H4.out fun q hq => H1.out.base q hq)
  rw [rounds_succ]
  go_wp2
  go_ret
  exact ⟨_, rfl, H3.out, u2.out⟩
set_option maxHeartbeats 800000 in
/-- Two rows, one behind the other. -/
theorem cat_s (gs b1 b2 o1 o2 n1 n2 c1 c2 : Nat) (z1 z2 : List Value) (w : World) (h0 : w.cell? ⟨gs, 0, none⟩ = some (.slice (some ⟨b1, o1, none⟩) n1 c1)) (h1 : w.cell? ⟨gs, 1, none⟩ = some (.slice (some ⟨b2, o2, none⟩) n2 c2))
    (r1 : ∀ j u, z1[j]? = some u → w.cell? ((⟨b1, o1, none⟩ : Addr).add j) = some u) (r2 : ∀ j u, z2[j]? = some u → w.cell? ((⟨b2, o2, none⟩ : Addr).add j) = some u) (v1 : ∀ u ∈ z1, u.oneCell' = true) (v2 : ∀ u ∈ z2, u.oneCell' = true) (l1 : z1.length = n1) (l2 : z2.length = n2) (k1 : b1 < w.heap.size) (k2 : b2 < w.heap.size) (n11 : 1 ≤ n1) (n12 : n1 ≤ 1024) (n22 : n2 ≤ 512) :
    Calls Try.prog 42 #[.slice (some ⟨gs, 0, none⟩) 2 2] w fun e w' => ∃ v, e = .returned v ∧ OwnV 22 w.heap.size w' v (z1 ++ z2) ∧ Up Nul w w' := by
  have G0 := hid (lt_of_cell h0)
  have HX := hid (And.intro (And.intro (And.intro r1 r2) (And.intro (And.intro l1 l2) (And.intro v1 v2))) (And.intro k1 k2))
  have HG := hid (grow_s (n1 + n2) w (by omega) (by omega))
  have e1 : (n1 : Int) + (n2 : Int) = ((n1 + n2 : Nat) : Int) := by simp
  obtain ⟨nn, NN⟩ : ∃ x, Hid (n1 + n2 = x) := ⟨_, rfl⟩
  have hnn : nn ≤ 1536 := by rw [← NN.out]; omega
  rw [NN.out] at e1 HG
  have i1 : ¬ ((n1 : Int) < 0) := by omega
  have i2 : ¬ ((nn : Int) < 0) := by omega
  have HC := hid (And.intro h0 h1)
  clear r1 r2 l1 l2 v1 v2 k1 k2
  go_enter Try.func42, Try.ntmps42
  go_wp2_with fail
  refine wp_loop_rounds 3 ?_
  rw [rounds_succ]
  go_wp2_with fail
  rw [rounds_succ]
  go_wp2_with fail
  rw [rounds_succ]
  go_wp2_with fail
  refine HG.out.mono ?_
  rintro e wg ⟨h, cap, rfl, hown, hu⟩
  have x0 := (hu.cell (p := ⟨gs, 0, none⟩) G0.out id).trans HC.out.1
  have x1 := (hu.cell (p := ⟨gs, 1, none⟩) G0.out id).trans HC.out.2
  have HO := hid (And.intro hown hu)
  clear hown hu HG h0 h1
  go_wp2_with fail
  refine wp_loop_rounds 3 ?_
  rw [rounds_succ]
  go_wp2_with (first
    | (at_builtin; refine wpList_append_vals Try.underlying33 info_sl rfl (by omega) rfl (.tmp 31) (.tmp 32) rfl w.heap.size (.slice (some ⟨h, 0, none⟩) 0 cap) [] rfl HO.out.1 ⟨b1, o1, none⟩ n1 c1 z1 rfl (fun j u hj => (HO.out.2.cell (by rw [add_block]; exact HX.out.2.1) id).trans (HX.out.1.1.1 j u hj)) HX.out.1.2.2.1 HX.out.1.2.1.1 (by simp; omega) HO.out.2.size ?_; intro v1 w1 H1 H2)
    | go_in)
  have u1 := hid (HO.out.2.grown H2.out fun q hq => (World.ownsRow.lt HO.out.1 q hq).1)
  have y1 := (u1.out.cell (p := ⟨gs, 1, none⟩) G0.out id).trans HC.out.2
  rw [rounds_succ]
  go_wp2_with (first
    | (at_builtin; refine wpList_append_vals Try.underlying33 info_sl rfl (by omega) rfl (.tmp 31) (.tmp 32) rfl w.heap.size v1 ([] ++ z1) rfl H1.out ⟨b2, o2, none⟩ n2 c2 z2 rfl (fun j u hj => (u1.out.cell (by rw [add_block]; exact HX.out.2.2) id).trans (HX.out.1.1.2 j u hj)) HX.out.1.2.2.2 HX.out.1.2.1.2 (by simp [HX.out.1.2.1.1]; omega) u1.out.size ?_; intro v2 w2 H3 H4)
    | go_in)
  have u2 := hid (u1.out.grown H4.out fun q hq => H1.out.base q hq)
  rw [rounds_succ]
  go_wp2
  go_ret
  exact ⟨_, rfl, H3.out, u2.out⟩
end Go.Proofs.Ytebglmfdchfplaa
