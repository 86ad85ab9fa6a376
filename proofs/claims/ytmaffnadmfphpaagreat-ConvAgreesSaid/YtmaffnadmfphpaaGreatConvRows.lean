/- 'Concat' of any number of rows; what 'alike' of stripes asks. -/
import Derived.Test.YtmaffnadmfphpaaGreatConvStripes
import Derived.Lib.AppendZeros
import Derived.Deep.Upon
namespace Go.Proofs.YtmaffnadmfphpaaGreat
open Go.RowKit
set_option linter.unusedVariables false

def flat (X : Nat → List Value) (m : Nat) : List Value := (List.range m).flatMap X
theorem flat_next (X : Nat → List Value) (m : Nat) : flat X (m + 1) = flat X m ++ X m := by simp [flat, List.range_succ]
theorem flat_mono (X : Nat → List Value) {k m : Nat} (h : k < m) : (flat X (k + 1)).length ≤ (flat X m).length := by
  induction m with
  | zero => omega
  | succ m ih =>
    by_cases e : k = m
    · rw [e]; exact Nat.le_refl _
    · rw [flat_next X m, List.length_append]
      have := ih (by omega)
      omega
theorem OwnV.shp {T : TypeId} {base : Nat} {w : World} {v : Value} {xs : List Value} (h : OwnV T base w v xs) : ∃ a cap, v = .slice a xs.length cap := by
  rcases h.2 with ⟨e, e0⟩ | ⟨g, cap, cur, e, _⟩
  · exact ⟨none, 0, by rw [e, e0]⟩
  · exact ⟨_, _, e⟩
/-- A part of a row of rows: a slice, its values. -/
structure Pt (w : World) (a : Option Addr) (n c : Nat) (xs : List Value) : Prop where
  len : xs.length = n
  one : ∀ u ∈ xs, u.oneCell' = true
  nil : a = none → n = 0 ∧ c = 0
  at_ : ∀ ad, a = some ad → ad.block < w.heap.size ∧ ∀ j u, xs[j]? = some u → w.cell? (ad.add j) = some u
theorem run_append_none {t T : TypeId} (ht : Tryz.prog.underlying t = some (.slice T)) {i : TypeInfo} (hi : Tryz.prog.info? T = some i) (base : Option Addr) (n cap : Nat) (h : n ≤ cap) (ty : TypeId) (w : World) :
    (Builtin.append_ #[t, t] ty #[.slice base n cap, .slice none 0 0]).run Tryz.prog w = .ok (.slice base n cap) w := by
  exact run_append_nothing w t t ty T i ht hi base n cap h _ (Src.ofNil w ht 0)
set_option maxHeartbeats 800000 in
theorem grow_ss (n : Nat) (w : World) (n1 : 1 ≤ n) (n2 : n ≤ 2000) :
    Calls Tryz.prog 65 #[.slice none 0 0, .int .i64 n] w fun e w' => ∃ h cap, e = .returned (.slice (some ⟨h, 0, none⟩) 0 cap) ∧ w'.ownsRow w.heap.size 30 1 (.slice (some ⟨h, 0, none⟩) 0 cap) 0 [] ∧ Up Nul w w' := by
  obtain ⟨i0, hi, hz0, hz2, hz3⟩ := info_parts info_ssl
  have hr : ∀ ty, (Builtin.append_ #[26, 3] ty #[.slice none 0 0, .int .i64 n]).run Tryz.prog w = _ := fun ty =>
    Lib.run_append_nil_zeros (P := Tryz.prog) w 26 3 ty 30 i0 (.slice none 0 0) .i64 .i64 Tryz.underlying26 Tryz.underlying3 hi hz0 n (by omega) (by rw [hz2]; omega) (by omega) (by rw [hz3]; omega)
  have hge := grownCap_ge w n 0 30
  have hmx := grownCap_le_maxLen w n 0 30 (by unfold maxLen; omega)
  obtain ⟨gc, GC⟩ : ∃ x, Hid (grownCap w n 0 30 = x) := ⟨_, rfl⟩
  rw [GC.out] at hge hmx
  have HO : Hid ((w.drew.alloc (.cells (Builtin.zeroCells ((.slice none 0 0) : Value).cells n ++ Builtin.zeroCells ((.slice none 0 0) : Value).cells (gc - n)) 30)).ownsRow w.heap.size 30 1 (.slice (some ⟨w.heap.size, 0, none⟩) 0 gc) 0 []) :=
    World.ownsRow_made w.drew _ gc (Nat.le_refl _) hmx (by
      rw [Array.size_append, size_zeroCells, size_zeroCells]
      show n * 1 + (gc - n) * 1 = gc * 1
      omega)
  have HU : Hid (Up Nul w (w.drew.alloc (.cells (Builtin.zeroCells ((.slice none 0 0) : Value).cells n ++ Builtin.zeroCells ((.slice none 0 0) : Value).cells (gc - n)) 30))) := ((Up.refl Nul w).drew).alloc _
  rw [GC.out] at hr
  have HR := hid hr
  generalize (w.drew.alloc (.cells (Builtin.zeroCells ((.slice none 0 0) : Value).cells n ++ Builtin.zeroCells ((.slice none 0 0) : Value).cells (gc - n)) 30)) = wa at *
  have c1 : ¬ ((n : Int) < 0) := by omega
  have c2 : (0 : Int) < (n : Int) := by omega
  have c3 : IntKind.i64.wrap (n : Int) = n := IntWalk.i64_in _ (by omega)
  have c4 : wrap64 (n : Int) = n := by rw [← IntWalk.i64_left]; exact c3
  clear hi hz0 hz2 hz3 hr hmx GC
  go_enter Tryz.func65, Tryz.ntmps65
  go_wp2_with (first
    | (at_builtin; refine Lib.wpList_append_run _ rfl (.tmp 20) (.tmp 21) _ _ rfl _ _ rfl rfl _ _ (HR.out _) ?_)
    | go_in)
  go_ret
  exact ⟨_, gc, rfl, HO.out, HU.out⟩

set_option maxHeartbeats 1600000 in
/-- Rows of one type, one behind the other. -/
theorem cats_s (gs og m cg : Nat) (A : Nat → Option Addr) (N C : Nat → Nat) (X : Nat → List Value) (w : World) (hm : m ≤ 1000)
    (h0 : ∀ i, i < m → w.cell? ⟨gs, og + i, none⟩ = some (.slice (A i) (N i) (C i))) (hp : ∀ i, i < m → Pt w (A i) (N i) (C i) (X i)) (n1 : 1 ≤ (flat X m).length) (n2 : (flat X m).length ≤ 1000) :
    Calls Tryz.prog 38 #[.slice (some ⟨gs, og, none⟩) m cg] w fun e w' => ∃ v, e = .returned v ∧ OwnV 22 w.heap.size w' v (flat X m) ∧ Up Nul w w' := by
  have HX := hid (And.intro h0 hp)
  have HG := hid (grow_s (flat X m).length w n1 (by omega))
  obtain ⟨T, TT⟩ : ∃ T, Hid ((flat X m).length = T) := ⟨_, rfl⟩
  rw [TT.out] at HG
  have hT : T ≤ 1000 := by rw [← TT.out]; exact n2
  clear h0 hp n1 n2
  go_enter Tryz.func38, Tryz.ntmps38
  go_wp2_with fail
  go_loopw [3, 11] (fun s i wr => ∃ k : Nat, k ≤ m ∧ i = .int .i64 k ∧ wr = w ∧ s = .int .i64 ((flat X k).length : Nat)) (fun _ i _ => m - (intOf i).toNat)
  case atStart => exact ⟨0, by omega, rfl, rfl, rfl⟩
  case round =>
    obtain ⟨k, hk, rfl, hwr, rfl⟩ := hrel
    have hww := hwr.symm
    subst hww
    by_cases hlt : k < m
    · have x0 := HX.out.1 k hlt
      have hn : (flat X (k + 1)).length = (flat X k).length + N k := by rw [flat_next, List.length_append, (HX.out.2 k hlt).len]
      have hle : (flat X (k + 1)).length ≤ T := by rw [← TT.out]; exact flat_mono X hlt
      obtain ⟨t1, T1⟩ : ∃ x, Hid ((flat X (k + 1)).length = x) := ⟨_, rfl⟩
      obtain ⟨t0, T0⟩ : ∃ x, Hid ((flat X k).length = x) := ⟨_, rfl⟩
      rw [T1.out, T0.out] at hn
      rw [T1.out] at hle
      rw [T0.out]
      generalize A k = ak at x0
      generalize C k = ck at x0
      generalize N k = nk at x0 hn
      have ev : (t0 : Int) + (nk : Int) = (t1 : Int) := by omega
      have i2 : ¬ ((t1 : Int) < 0) := by omega
      clear hn
      go_wp2
      go_roundw
      case rel => exact ⟨k + 1, by omega, by go_num, trivial, by rw [T1.out]⟩
      case measure => simp [intOf]; omega
    · obtain rfl : m = k := by omega
      rw [TT.out]
      go_wp2_with fail
      refine HG.out.mono ?_
      rintro e wg ⟨h, cap, rfl, hown, hu⟩
      have HO : Hid (OwnV 22 w.heap.size wg (.slice (some ⟨h, 0, none⟩) 0 cap) [] ∧ Up Nul w wg) := ⟨hown, hu⟩
      clear hown hu HG
      go_wp2_with fail
      go_loopw [6, 27] (fun v i wx => ∃ k : Nat, k ≤ m ∧ i = .int .i64 k ∧ OwnV 22 w.heap.size wx v (flat X k) ∧ Up Nul w wx) (fun _ i _ => m - (intOf i).toNat)
      case atStart => exact ⟨0, by omega, rfl, HO.out⟩
      case round =>
        clear HO
        obtain ⟨k, hk, rfl, ho, hu⟩ := hrel
        by_cases hlt : k < m
        · have HP := hid (HX.out.2 k hlt)
          have x0 := (hu.cell (p := ⟨gs, og + k, none⟩) (lt_of_cell (HX.out.1 k hlt)) id).trans (HX.out.1 k hlt)
          have HFL : Hid ((flat X k).length + N k ≤ 1000000) := by
            show _ ≤ _
            have h1 : (flat X (k + 1)).length = (flat X k).length + N k := by rw [flat_next, List.length_append, (HX.out.2 k hlt).len]
            have h2 : (flat X (k + 1)).length ≤ T := by rw [← TT.out]; exact flat_mono X hlt
            omega
          obtain ⟨va, vc, rfl⟩ := OwnV.shp (T := 22) (base := w.heap.size) ho
          have HOO : Hid (OwnV 22 w.heap.size wr (.slice va _ vc) (flat X _) ∧ Up Nul w wr) := ⟨ho, hu⟩
          clear ho hu
          have HFN := hid (flat_next X k)
          generalize A k = ak at x0 HP
          generalize C k = ck at x0 HP
          generalize N k = nk at x0 HP HFL
          generalize X k = xk at HP HFN
          cases ak with
          | some ad =>
            go_wp2_with (first
              | (at_builtin; refine wpList_append_vals Tryz.underlying30 info_sl rfl (by omega) rfl (.tmp 31) (.tmp 32) rfl w.heap.size _ (flat X k) rfl HOO.out.1 ad nk ck xk rfl (fun j u hj => (HOO.out.2.cell (by rw [add_block]; exact (HP.out.at_ ad rfl).1) id).trans ((HP.out.at_ ad rfl).2 j u hj)) HP.out.one HP.out.len HFL.out HOO.out.2.size ?_; intro v2 w2 H1 H2)
              | go_in)
            go_roundw
            case rel => exact ⟨k + 1, by omega, by go_num, by rw [HFN.out]; exact H1.out, HOO.out.2.grown H2.out fun q hq => HOO.out.1.base q hq⟩
            case measure => simp [intOf]; omega
          | none =>
            obtain ⟨rfl, rfl⟩ := HP.out.nil rfl
            have HXE : Hid (xk = []) := by have := HP.out.len; exact List.length_eq_zero_iff.1 this
            have HFN2 : Hid (flat X (k + 1) = flat X k) := by show _ = _; rw [HFN.out, HXE.out, List.append_nil]
            have HCP : Hid ((flat X k).length ≤ vc) := by
              show _ ≤ _
              rcases HOO.out.1.2 with ⟨e, e0⟩ | ⟨g', cap', cur', e, _, _, e4, _⟩
              · omega
              · cases e; exact e4
            obtain ⟨i0, hi0, _, _, _⟩ := info_parts info_sl
            have HR : Hid (∀ ty w, (Builtin.append_ #[30, 30] ty #[.slice va (flat X k).length vc, .slice none 0 0]).run Tryz.prog w = .ok (.slice va (flat X k).length vc) w) := fun ty w => run_append_none Tryz.underlying30 hi0 va _ vc HCP.out ty w
            clear hi0
            go_wp2_with (first
              | (at_builtin; refine Lib.wpList_append_run _ rfl (.tmp 31) (.tmp 32) _ _ rfl _ _ rfl rfl _ _ (HR.out _ _) ?_)
              | go_in)
            go_roundw
            case rel => exact ⟨k + 1, by omega, by go_num, by rw [HFN2.out]; exact HOO.out⟩
            case measure => simp [intOf]; omega
        · obtain rfl : m = k := by omega
          obtain ⟨va, vc, rfl⟩ := OwnV.shp (T := 22) (base := w.heap.size) ho
          have HOO : Hid (OwnV 22 w.heap.size wr (.slice va _ vc) (flat X _) ∧ Up Nul w wr) := ⟨ho, hu⟩
          clear ho hu
          go_wp2
          go_ret
          exact ⟨_, rfl, HOO.out⟩
set_option maxHeartbeats 1600000 in
/-- Rows of one type, one behind the other. -/
theorem cats_ss (gs og m cg : Nat) (A : Nat → Option Addr) (N C : Nat → Nat) (X : Nat → List Value) (w : World) (hm : m ≤ 1000)
    (h0 : ∀ i, i < m → w.cell? ⟨gs, og + i, none⟩ = some (.slice (A i) (N i) (C i))) (hp : ∀ i, i < m → Pt w (A i) (N i) (C i) (X i)) (n1 : 1 ≤ (flat X m).length) (n2 : (flat X m).length ≤ 1000) :
    Calls Tryz.prog 36 #[.slice (some ⟨gs, og, none⟩) m cg] w fun e w' => ∃ v, e = .returned v ∧ OwnV 30 w.heap.size w' v (flat X m) ∧ Up Nul w w' := by
  have HX := hid (And.intro h0 hp)
  have HG := hid (grow_ss (flat X m).length w n1 (by omega))
  obtain ⟨T, TT⟩ : ∃ T, Hid ((flat X m).length = T) := ⟨_, rfl⟩
  rw [TT.out] at HG
  have hT : T ≤ 1000 := by rw [← TT.out]; exact n2
  clear h0 hp n1 n2
  go_enter Tryz.func36, Tryz.ntmps36
  go_wp2_with fail
  go_loopw [3, 11] (fun s i wr => ∃ k : Nat, k ≤ m ∧ i = .int .i64 k ∧ wr = w ∧ s = .int .i64 ((flat X k).length : Nat)) (fun _ i _ => m - (intOf i).toNat)
  case atStart => exact ⟨0, by omega, rfl, rfl, rfl⟩
  case round =>
    obtain ⟨k, hk, rfl, hwr, rfl⟩ := hrel
    have hww := hwr.symm
    subst hww
    by_cases hlt : k < m
    · have x0 := HX.out.1 k hlt
      have hn : (flat X (k + 1)).length = (flat X k).length + N k := by rw [flat_next, List.length_append, (HX.out.2 k hlt).len]
      have hle : (flat X (k + 1)).length ≤ T := by rw [← TT.out]; exact flat_mono X hlt
      obtain ⟨t1, T1⟩ : ∃ x, Hid ((flat X (k + 1)).length = x) := ⟨_, rfl⟩
      obtain ⟨t0, T0⟩ : ∃ x, Hid ((flat X k).length = x) := ⟨_, rfl⟩
      rw [T1.out, T0.out] at hn
      rw [T1.out] at hle
      rw [T0.out]
      generalize A k = ak at x0
      generalize C k = ck at x0
      generalize N k = nk at x0 hn
      have ev : (t0 : Int) + (nk : Int) = (t1 : Int) := by omega
      have i2 : ¬ ((t1 : Int) < 0) := by omega
      clear hn
      go_wp2
      go_roundw
      case rel => exact ⟨k + 1, by omega, by go_num, trivial, by rw [T1.out]⟩
      case measure => simp [intOf]; omega
    · obtain rfl : m = k := by omega
      rw [TT.out]
      go_wp2_with fail
      refine HG.out.mono ?_
      rintro e wg ⟨h, cap, rfl, hown, hu⟩
      have HO : Hid (OwnV 30 w.heap.size wg (.slice (some ⟨h, 0, none⟩) 0 cap) [] ∧ Up Nul w wg) := ⟨hown, hu⟩
      clear hown hu HG
      go_wp2_with fail
      go_loopw [6, 27] (fun v i wx => ∃ k : Nat, k ≤ m ∧ i = .int .i64 k ∧ OwnV 30 w.heap.size wx v (flat X k) ∧ Up Nul w wx) (fun _ i _ => m - (intOf i).toNat)
      case atStart => exact ⟨0, by omega, rfl, HO.out⟩
      case round =>
        clear HO
        obtain ⟨k, hk, rfl, ho, hu⟩ := hrel
        by_cases hlt : k < m
        · have HP := hid (HX.out.2 k hlt)
          have x0 := (hu.cell (p := ⟨gs, og + k, none⟩) (lt_of_cell (HX.out.1 k hlt)) id).trans (HX.out.1 k hlt)
          have HFL : Hid ((flat X k).length + N k ≤ 1000000) := by
            show _ ≤ _
            have h1 : (flat X (k + 1)).length = (flat X k).length + N k := by rw [flat_next, List.length_append, (HX.out.2 k hlt).len]
            have h2 : (flat X (k + 1)).length ≤ T := by rw [← TT.out]; exact flat_mono X hlt
            omega
          obtain ⟨va, vc, rfl⟩ := OwnV.shp (T := 30) (base := w.heap.size) ho
          have HOO : Hid (OwnV 30 w.heap.size wr (.slice va _ vc) (flat X _) ∧ Up Nul w wr) := ⟨ho, hu⟩
          clear ho hu
          have HFN := hid (flat_next X k)
          generalize A k = ak at x0 HP
          generalize C k = ck at x0 HP
          generalize N k = nk at x0 HP HFL
          generalize X k = xk at HP HFN
          cases ak with
          | some ad =>
            go_wp2_with (first
              | (at_builtin; refine wpList_append_vals Tryz.underlying26 info_ssl rfl (by omega) rfl (.tmp 31) (.tmp 32) rfl w.heap.size _ (flat X k) rfl HOO.out.1 ad nk ck xk rfl (fun j u hj => (HOO.out.2.cell (by rw [add_block]; exact (HP.out.at_ ad rfl).1) id).trans ((HP.out.at_ ad rfl).2 j u hj)) HP.out.one HP.out.len HFL.out HOO.out.2.size ?_; intro v2 w2 H1 H2)
              | go_in)
            go_roundw
            case rel => exact ⟨k + 1, by omega, by go_num, by rw [HFN.out]; exact H1.out, HOO.out.2.grown H2.out fun q hq => HOO.out.1.base q hq⟩
            case measure => simp [intOf]; omega
          | none =>
            obtain ⟨rfl, rfl⟩ := HP.out.nil rfl
            have HXE : Hid (xk = []) := by have := HP.out.len; exact List.length_eq_zero_iff.1 this
            have HFN2 : Hid (flat X (k + 1) = flat X k) := by show _ = _; rw [HFN.out, HXE.out, List.append_nil]
            have HCP : Hid ((flat X k).length ≤ vc) := by
              show _ ≤ _
              rcases HOO.out.1.2 with ⟨e, e0⟩ | ⟨g', cap', cur', e, _, _, e4, _⟩
              · omega
              · cases e; exact e4
            obtain ⟨i0, hi0, _, _, _⟩ := info_parts info_ssl
            have HR : Hid (∀ ty w, (Builtin.append_ #[26, 26] ty #[.slice va (flat X k).length vc, .slice none 0 0]).run Tryz.prog w = .ok (.slice va (flat X k).length vc) w) := fun ty w => run_append_none Tryz.underlying26 hi0 va _ vc HCP.out ty w
            clear hi0
            go_wp2_with (first
              | (at_builtin; refine Lib.wpList_append_run _ rfl (.tmp 31) (.tmp 32) _ _ rfl _ _ rfl rfl _ _ (HR.out _ _) ?_)
              | go_in)
            go_roundw
            case rel => exact ⟨k + 1, by omega, by go_num, by rw [HFN2.out]; exact HOO.out⟩
            case measure => simp [intOf]; omega
        · obtain rfl : m = k := by omega
          obtain ⟨va, vc, rfl⟩ := OwnV.shp (T := 30) (base := w.heap.size) ho
          have HOO : Hid (OwnV 30 w.heap.size wr (.slice va _ vc) (flat X _) ∧ Up Nul w wr) := ⟨ho, hu⟩
          clear ho hu
          go_wp2
          go_ret
          exact ⟨_, rfl, HOO.out⟩
end Go.Proofs.YtmaffnadmfphpaaGreat
