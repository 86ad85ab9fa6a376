/- slices.Concat of rows of Locs. -/
import Derived.Test.YtmhmlfgikmeejaaDoorMtStep
import Derived.Lib.AppendZeros
import Derived.Deep.Upon
namespace Go.Proofs.YtmhmlfgikmeejaaDoor
open Go.RowKit Go.Maps
set_option linter.unusedVariables false

def flatL (R : Nat → List Lo) (m : Nat) : List Lo := (List.range m).flatMap R
theorem flatL_next (R : Nat → List Lo) (m : Nat) : flatL R (m + 1) = flatL R m ++ R m := by simp [flatL, List.range_succ]
theorem flatL_mono (R : Nat → List Lo) {k m : Nat} (h : k < m) : (flatL R (k + 1)).length ≤ (flatL R m).length := by
  induction m with
  | zero => omega
  | succ m ih =>
    by_cases e : k = m
    · rw [e]; exact Nat.le_refl _
    · rw [flatL_next R m, List.length_append]
      have := ih (by omega)
      omega
set_option maxRecDepth 10000 in
set_option maxHeartbeats 4000000 in
theorem grow_l (n : Nat) (w : World) (n1 : 1 ≤ n) (n2 : n ≤ 2000) :
    Calls Tryd.prog 63 #[.slice none 0 0, .int .i64 n] w fun e w' => ∃ h cap, e = .returned (.slice (some ⟨h, 0, none⟩) 0 cap) ∧ OwnLo w.heap.size w' (.slice (some ⟨h, 0, none⟩) 0 cap) [] ∧ Up Nul w w' := by
  obtain ⟨i0, z0, hi, hz0, hz2, hz3, hz4⟩ := info_lo
  have hr : ∀ ty, (Builtin.append_ #[29, 3] ty #[.slice none 0 0, .int .i64 n]).run Tryd.prog w = _ := fun ty =>
    Lib.run_append_nil_zeros (P := Tryd.prog) w 29 3 ty 36 i0 z0 .i64 .i64 Tryd.underlying29 Tryd.underlying3 hi hz0 n (by omega) (by rw [hz2]; omega) (by omega) (by rw [hz3]; omega)
  have hge := grownCap_ge w n 0 36
  have hmx := grownCap_le_maxLen w n 0 36 (by unfold maxLen; omega)
  obtain ⟨gc, GC⟩ : ∃ x, Hid (grownCap w n 0 36 = x) := ⟨_, rfl⟩
  rw [GC.out] at hge hmx
  have HO : Hid (OwnLo w.heap.size (w.drew.alloc (.cells (Builtin.zeroCells z0.cells n ++ Builtin.zeroCells z0.cells (gc - n)) 36)) (.slice (some ⟨w.heap.size, 0, none⟩) 0 gc) []) :=
    World.ownsRow_made w.drew _ gc (Nat.le_refl _) hmx (by
      rw [Array.size_append, size_zeroCells, size_zeroCells, hz4]
      omega)
  have HU : Hid (Up Nul w (w.drew.alloc (.cells (Builtin.zeroCells z0.cells n ++ Builtin.zeroCells z0.cells (gc - n)) 36))) := ((Up.refl Nul w).drew).alloc _
  rw [GC.out] at hr
  have HR := hid hr
  generalize (w.drew.alloc (.cells (Builtin.zeroCells z0.cells n ++ Builtin.zeroCells z0.cells (gc - n)) 36)) = wa at *
  have c1 : ¬ ((n : Int) < 0) := by omega
  have c2 : (0 : Int) < (n : Int) := by omega
  have c3 : IntKind.i64.wrap (n : Int) = n := IntWalk.i64_in _ (by omega)
  have c4 : wrap64 (n : Int) = n := by rw [← IntWalk.i64_left]; exact c3
  clear hi hz0 hz2 hz3 hr hmx GC
  go_enter Tryd.func63, Tryd.ntmps63
  go_wp2_with (first
    | (at_builtin; refine Lib.wpList_append_run _ rfl (.tmp 20) (.tmp 21) _ _ rfl _ _ rfl rfl _ _ (HR.out _) ?_)
    | go_in)
  go_ret
  exact ⟨_, gc, rfl, HO.out, HU.out⟩
/-- Rows of Locs, one behind the other, in a block of slices. -/
structure LR (w : World) (gs og m : Nat) (R : Nat → List Lo) : Prop where
  lt : gs < w.heap.size
  row : ∀ i, i < m → ∃ a c, w.cell? ⟨gs, og + i, none⟩ = some (.slice a (R i).length c) ∧ RowL w a (R i) ∧ R i ≠ []
theorem LR.nxt {w w' : World} {gs og m : Nat} {R : Nat → List Lo} (h : LR w gs og m R) (u : Up Nul w w') : LR w' gs og m R :=
  ⟨Nat.lt_of_lt_of_le h.lt u.size, fun i hi => by
    obtain ⟨a, c, h1, h2, h3⟩ := h.row i hi
    exact ⟨a, c, (u.cell (p := ⟨gs, og + i, none⟩) h.lt id).trans h1, h2.nxt u, h3⟩⟩
set_option maxRecDepth 10000 in
set_option maxHeartbeats 4000000 in
theorem cats_l (gs og m cg : Nat) (R : Nat → List Lo) (w : World) (hm : m ≤ 16) (hR : LR w gs og m R) (n1 : 1 ≤ (flatL R m).length) (n2 : (flatL R m).length ≤ 1000) :
    Calls Tryd.prog 54 #[.slice (some ⟨gs, og, none⟩) m cg] w fun e w' => ∃ v, e = .returned v ∧ OwnLo w.heap.size w' v (flatL R m) ∧ Up Nul w w' := by
  have HX := hid hR
  have HG := hid (grow_l (flatL R m).length w n1 (by omega))
  obtain ⟨T, TT⟩ : ∃ T, Hid ((flatL R m).length = T) := ⟨_, rfl⟩
  rw [TT.out] at HG
  have hT : T ≤ 1000 := by rw [← TT.out]; exact n2
  clear hR n1 n2
  go_enter Tryd.func54, Tryd.ntmps54
  go_wp2_with fail
  go_loopw [3, 11] (fun s i wr => ∃ k : Nat, k ≤ m ∧ i = .int .i64 k ∧ wr = w ∧ s = .int .i64 ((flatL R k).length : Nat)) (fun _ i _ => m - (intOf i).toNat)
  case atStart => exact ⟨0, by omega, rfl, rfl, rfl⟩
  case round =>
    obtain ⟨k, hk, rfl, hwr, rfl⟩ := hrel
    have hww := hwr.symm
    subst hww
    by_cases hlt : k < m
    · obtain ⟨ak, ck, x0, _⟩ := HX.out.row k hlt
      have hn : (flatL R (k + 1)).length = (flatL R k).length + (R k).length := by rw [flatL_next, List.length_append]
      have hle : (flatL R (k + 1)).length ≤ T := by rw [← TT.out]; exact flatL_mono R hlt
      obtain ⟨t1, T1⟩ : ∃ x, Hid ((flatL R (k + 1)).length = x) := ⟨_, rfl⟩
      obtain ⟨t0, T0⟩ : ∃ x, Hid ((flatL R k).length = x) := ⟨_, rfl⟩
      rw [T1.out, T0.out] at hn
      rw [T1.out] at hle
      rw [T0.out]
      generalize (R k).length = nk at x0 hn
      have ev : (t0 : Int) + (nk : Int) = (t1 : Int) := by omega
      have i2 : ¬ ((t1 : Int) < 0) := by omega
      clear hn
      go_wp2
      go_roundw
      case rel => exact ⟨k + 1, by omega, by go_num, trivial, by rw [T1.out]⟩
      case measure => simp [intOf]; omega
    · obtain rfl : m = k := by omega
      rw [TT.out]
      go_wp2_with fail
      refine HG.out.mono ?_
      rintro e wg ⟨h, cap, rfl, hown, hu⟩
      have HO : Hid (OwnLo w.heap.size wg (.slice (some ⟨h, 0, none⟩) 0 cap) [] ∧ Up Nul w wg) := ⟨hown, hu⟩
      clear hown hu HG
      go_wp2_with fail
      go_loopw [6, 27] (fun v i wx => ∃ k : Nat, k ≤ m ∧ i = .int .i64 k ∧ OwnLo w.heap.size wx v (flatL R k) ∧ Up Nul w wx) (fun _ i _ => m - (intOf i).toNat)
      case atStart => exact ⟨0, by omega, rfl, HO.out⟩
      case round =>
        clear HO
        obtain ⟨k, hk, rfl, ho, hu⟩ := hrel
        by_cases hlt : k < m
        · obtain ⟨ak, ck, x0, hsl, hne⟩ := (HX.out.nxt hu).row k hlt
          have hfl : (flatL R k).length + (R k).length ≤ 1000 := by
            have h1 : (flatL R (k + 1)).length = (flatL R k).length + (R k).length := by rw [flatL_next, List.length_append]
            have h2 : (flatL R (k + 1)).length ≤ T := by rw [← TT.out]; exact flatL_mono R hlt
            omega
          obtain ⟨v2, w2, hrun, H1, H2, _⟩ := ho.apps ak ck hsl hne (by omega) (by omega) hu.size
          obtain ⟨va, vc, hv⟩ := ho.shape
          have HE : Hid (OwnLo w.heap.size w2 v2 (flatL R (k + 1)) ∧ Up Nul w w2) := ⟨by rw [flatL_next]; exact H1, hu.grown H2 fun q hq => ho.bs q hq⟩
          subst hv
          obtain ⟨va2, vc2, hv2⟩ := HE.out.1.shape
          subst hv2
          have HRUN := hid hrun
          clear ho hu H1 H2 hsl hne hfl hrun
          generalize (R k).length = nk at x0 HRUN
          go_wp2_with (first
            | (at_builtin; refine wpList_append_eqv rfl _ _ _ rfl _ _ _ rfl rfl HRUN.out ?_)
            | go_in)
          go_roundw
          case rel => exact ⟨k + 1, by omega, by go_num, HE.out.1, HE.out.2⟩
          case measure => simp [intOf]; omega
        · obtain rfl : m = k := by omega
          obtain ⟨va, vc, hv⟩ := ho.shape
          subst hv
          have HE := hid (And.intro ho hu)
          clear ho hu
          go_wp2
          go_ret
          exact ⟨_, rfl, HE.out.1, HE.out.2⟩
end Go.Proofs.YtmhmlfgikmeejaaDoor
