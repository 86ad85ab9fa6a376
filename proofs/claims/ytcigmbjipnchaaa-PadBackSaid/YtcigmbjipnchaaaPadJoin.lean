/- 'Join'. -/
import Derived.Test.YtcigmbjipnchaaaPadCut
namespace Go.Proofs.Ytcigmbjipnchaaa
open Go.RowKit
set_option linter.unusedVariables false

theorem unlike_yes (a : Option Addr) (n c : Nat) (w : World) (h : n ≠ 16) :
    Calls Try.prog 17 #[.slice a n c] w fun e w' => e = .returned (.bool true) ∧ w' = w := by
  have e1 : ((n : Int) == 16) = false := by simp; omega
  have e2 : ((n : Int) != 16) = true := by simp; omega
  clear h
  go_enter Try.func17, Try.ntmps17
  go_wp2
  go_ret
  exact ⟨rfl, rfl⟩
theorem unlike_no (a : Option Addr) (n c : Nat) (w : World) (h : n = 16) :
    Calls Try.prog 17 #[.slice a n c] w fun e w' => e = .returned (.bool false) ∧ w' = w := by
  subst h
  go_enter Try.func17, Try.ntmps17
  go_wp2
  go_ret
  exact ⟨rfl, rfl⟩
set_option maxHeartbeats 400000 in
theorem indexJ_any (g o n cap : Nat) (R : Nat → List Nat) (w : World) (hR : SR w g o n R) (hn : n ≤ 1000) :
    Calls Try.prog 21 #[.slice (some ⟨g, o, none⟩) n cap, .func (.func 17) #[] #[]] w
      fun e w' => (∃ x : Int, e = .returned (.int .i64 x) ∧ ((0 ≤ x ∧ ∃ i, i < n ∧ (R i).length ≠ 16) ∨ (x < 0 ∧ ∀ i, i < n → (R i).length = 16))) ∧ w' = w := by
  have HR := hid hR
  clear hR
  go_enter Try.func21, Try.ntmps21
  go_wp2
  go_loopw [8] (fun i wr => ∃ k : Nat, k ≤ n ∧ i = .int .i64 k ∧ wr = w ∧ ∀ i, i < k → (R i).length = 16) (fun i _ => n - (intOf i).toNat)
  case atStart => exact ⟨0, by omega, rfl, rfl, fun _ h => absurd h (Nat.not_lt_zero _)⟩
  case round =>
    obtain ⟨k, hk, rfl, rfl, hg⟩ := hrel
    have HG := hid hg
    clear hg
    by_cases hlt : k < n
    · obtain ⟨a, c, hc, _⟩ := HR.out.cells k hlt
      obtain ⟨x, X⟩ : ∃ x, Hid ((R k).length = x) := ⟨_, rfl⟩
      rw [X.out] at hc
      by_cases hb : x = 16
      · have HB := hid (unlike_no a x c wr hb)
        have HU : Hid ((R k).length = 16) := by show _ = _; rw [X.out]; exact hb
        clear hb
        go_wp2_with ((go_at_call 17; (with_reducible refine HB.out.mono ?_); rintro e w1 ⟨rfl, rfl⟩))
        go_roundw
        case rel => exact ⟨k + 1, by omega, by go_num, trivial, fun i hi => by
          by_cases e : i = k
          · rw [e]; exact HU.out
          · exact HG.out i (by omega)⟩
        case measure => simp [intOf]; omega
      · have HB := hid (unlike_yes a x c wr hb)
        have HU : Hid ((R k).length ≠ 16) := by show _ ≠ _; rw [X.out]; exact hb
        clear hb
        go_wp2_with ((go_at_call 17; (with_reducible refine HB.out.mono ?_); rintro e w1 ⟨rfl, rfl⟩))
        go_ret
        exact ⟨⟨_, rfl, .inl ⟨by omega, k, hlt, HU.out⟩⟩, rfl⟩
    · obtain rfl : n = k := by omega
      go_wp2
      go_ret
      exact ⟨⟨_, rfl, .inr ⟨by omega, HG.out⟩⟩, rfl⟩
theorem containsJ_any (g o n cap : Nat) (R : Nat → List Nat) (w : World) (hR : SR w g o n R) (hn : n ≤ 1000) :
    Calls Try.prog 18 #[.slice (some ⟨g, o, none⟩) n cap, .func (.func 17) #[] #[]] w
      fun e w' => ((e = .returned (.bool true) ∧ ∃ i, i < n ∧ (R i).length ≠ 16) ∨ (e = .returned (.bool false) ∧ ∀ i, i < n → (R i).length = 16)) ∧ w' = w := by
  have H := hid (indexJ_any g o n cap R w hR hn)
  clear hR hn
  go_enter Try.func18, Try.ntmps18
  go_wp2_with fail
  refine H.out.mono ?_
  rintro e w1 ⟨⟨x, rfl, ⟨h0, hb⟩ | ⟨h0, hb⟩⟩, rfl⟩
  · have HB := hid hb
    clear hb
    go_wp2
    go_ret
    exact ⟨.inl ⟨by simp, HB.out⟩, rfl⟩
  · have HB := hid hb
    have h1 : ¬ 0 ≤ x := by omega
    clear hb
    go_wp2
    go_ret
    exact ⟨.inr ⟨by simp [h1], HB.out⟩, rfl⟩

/-! ### 'Concat' of any number of rows of bytes -/
def flatB (R : Nat → List Nat) (m : Nat) : List Nat := (List.range m).flatMap R
theorem flatB_next (R : Nat → List Nat) (m : Nat) : flatB R (m + 1) = flatB R m ++ R m := by simp [flatB, List.range_succ]
theorem flatB_mono (R : Nat → List Nat) {k m : Nat} (h : k < m) : (flatB R (k + 1)).length ≤ (flatB R m).length := by
  induction m with
  | zero => omega
  | succ m ih =>
    by_cases e : k = m
    · rw [e]; exact Nat.le_refl _
    · rw [flatB_next R m, List.length_append]
      have := ih (by omega)
      omega
set_option maxHeartbeats 800000 in
theorem grow_b (n : Nat) (w : World) (n1 : 1 ≤ n) (n2 : n ≤ 2000) :
    Calls Try.prog 22 #[.slice none 0 0, .int .i64 n] w fun e w' => ∃ h cap, e = .returned (.slice (some ⟨h, 0, none⟩) 0 cap) ∧ w'.ownsRow w.heap.size 5 1 (.slice (some ⟨h, 0, none⟩) 0 cap) 0 [] ∧ Up Nul w w' := by
  obtain ⟨i0, hi, hz0, hz2, hz3⟩ := info_parts info_u8
  have hr : ∀ ty, (Builtin.append_ #[22, 3] ty #[.slice none 0 0, .int .i64 n]).run Try.prog w = _ := fun ty =>
    Lib.run_append_nil_zeros (P := Try.prog) w 22 3 ty 5 i0 (.int .u8 0) .i64 .i64 Try.underlying22 Try.underlying3 hi hz0 n (by omega) (by rw [hz2]; omega) (by omega) (by rw [hz3]; omega)
  have hge := grownCap_ge w n 0 5
  have hmx := grownCap_le_maxLen w n 0 5 (by unfold maxLen; omega)
  obtain ⟨gc, GC⟩ : ∃ x, Hid (grownCap w n 0 5 = x) := ⟨_, rfl⟩
  rw [GC.out] at hge hmx
  have HO : Hid ((w.drew.alloc (.cells (Builtin.zeroCells ((.int .u8 0) : Value).cells n ++ Builtin.zeroCells ((.int .u8 0) : Value).cells (gc - n)) 5)).ownsRow w.heap.size 5 1 (.slice (some ⟨w.heap.size, 0, none⟩) 0 gc) 0 []) :=
    World.ownsRow_made w.drew _ gc (Nat.le_refl _) hmx (by
      rw [Array.size_append, size_zeroCells, size_zeroCells]
      show n * 1 + (gc - n) * 1 = gc * 1
      omega)
  have HU : Hid (Up Nul w (w.drew.alloc (.cells (Builtin.zeroCells ((.int .u8 0) : Value).cells n ++ Builtin.zeroCells ((.int .u8 0) : Value).cells (gc - n)) 5))) := ((Up.refl Nul w).drew).alloc _
  rw [GC.out] at hr
  have HR := hid hr
  generalize (w.drew.alloc (.cells (Builtin.zeroCells ((.int .u8 0) : Value).cells n ++ Builtin.zeroCells ((.int .u8 0) : Value).cells (gc - n)) 5)) = wa at *
  have c1 : ¬ ((n : Int) < 0) := by omega
  have c2 : (0 : Int) < (n : Int) := by omega
  have c3 : IntKind.i64.wrap (n : Int) = n := IntWalk.i64_in _ (by omega)
  have c4 : wrap64 (n : Int) = n := by rw [← IntWalk.i64_left]; exact c3
  clear hi hz0 hz2 hz3 hr hmx GC
  go_enter Try.func22, Try.ntmps22
  go_wp2_with (first
    | (at_builtin; refine Lib.wpList_append_run _ rfl (.tmp 20) (.tmp 21) _ _ rfl _ _ rfl rfl _ _ (HR.out _) ?_)
    | go_in)
  go_ret
  exact ⟨_, gc, rfl, HO.out, HU.out⟩
theorem OwnB.shp {base : Nat} {w : World} {v : Value} {z : List Nat} (h : OwnB base w v z) : ∃ a cap, v = .slice a z.length cap := by
  rcases h.own.2 with ⟨e, e0⟩ | ⟨g, cap, cur, e, _⟩
  · exact ⟨none, 0, by rw [e, e0]⟩
  · exact ⟨_, _, e⟩
set_option maxHeartbeats 1600000 in
/-- Rows of bytes, one behind the other. -/
theorem cats_b (gs og m cg : Nat) (R : Nat → List Nat) (w : World) (hm : m ≤ 1000) (hR : SR w gs og m R) (n1 : 1 ≤ (flatB R m).length) (n2 : (flatB R m).length ≤ 1000) :
    Calls Try.prog 19 #[.slice (some ⟨gs, og, none⟩) m cg] w fun e w' => ∃ a c, e = .returned (.slice a (flatB R m).length c) ∧ Got w w' a (flatB R m).length c (flatB R m) := by
  have HX := hid hR
  have HG := hid (grow_b (flatB R m).length w n1 (by omega))
  obtain ⟨T, TT⟩ : ∃ T, Hid ((flatB R m).length = T) := ⟨_, rfl⟩
  rw [TT.out] at HG ⊢
  have hT : T ≤ 1000 := by rw [← TT.out]; exact n2
  clear hR n1 n2
  go_enter Try.func19, Try.ntmps19
  go_wp2_with fail
  go_loopw [3, 11] (fun s i wr => ∃ k : Nat, k ≤ m ∧ i = .int .i64 k ∧ wr = w ∧ s = .int .i64 ((flatB R k).length : Nat)) (fun _ i _ => m - (intOf i).toNat)
  case atStart => exact ⟨0, by omega, rfl, rfl, rfl⟩
  case round =>
    obtain ⟨k, hk, rfl, hwr, rfl⟩ := hrel
    have hww := hwr.symm
    subst hww
    by_cases hlt : k < m
    · obtain ⟨ak, ck, x0, _⟩ := HX.out.cells k hlt
      have hn : (flatB R (k + 1)).length = (flatB R k).length + (R k).length := by rw [flatB_next, List.length_append]
      have hle : (flatB R (k + 1)).length ≤ T := by rw [← TT.out]; exact flatB_mono R hlt
      obtain ⟨t1, T1⟩ : ∃ x, Hid ((flatB R (k + 1)).length = x) := ⟨_, rfl⟩
      obtain ⟨t0, T0⟩ : ∃ x, Hid ((flatB R k).length = x) := ⟨_, rfl⟩
      rw [T1.out, T0.out] at hn
      rw [T1.out] at hle
      rw [T0.out]
      generalize (R k).length = nk at x0 hn
      have ev : (t0 : Int) + (nk : Int) = (t1 : Int) := by omega
      have i2 : ¬ ((t1 : Int) < 0) := by omega
      clear hn
      go_wp2
      go_roundw
      case rel => exact ⟨k + 1, by omega, by go_num, trivial, by rw [T1.out]⟩
      case measure => simp [intOf]; omega
    · obtain rfl : m = k := by omega
      rw [TT.out]
      go_wp2_with fail
      refine HG.out.mono ?_
      rintro e wg ⟨h, cap, rfl, hown, hu⟩
      have HO : Hid (OwnB w.heap.size wg (.slice (some ⟨h, 0, none⟩) 0 cap) [] ∧ Up Nul w wg) := ⟨⟨hown, fun _ h => by cases h⟩, hu⟩
      clear hown hu HG
      go_wp2_with fail
      go_loopw [6, 27] (fun v i wx => ∃ k : Nat, k ≤ m ∧ i = .int .i64 k ∧ OwnB w.heap.size wx v (flatB R k) ∧ Up Nul w wx) (fun _ i _ => m - (intOf i).toNat)
      case atStart => exact ⟨0, by omega, rfl, HO.out⟩
      case round =>
        clear HO
        obtain ⟨k, hk, rfl, ho, hu⟩ := hrel
        by_cases hlt : k < m
        · obtain ⟨ak, ck, x0, hsl, hcl, hnl⟩ := (HX.out.nxt hu).cells k hlt
          have HFL : Hid ((flatB R k).length + (R k).length ≤ 1000000) := by
            show _ ≤ _
            have h1 : (flatB R (k + 1)).length = (flatB R k).length + (R k).length := by rw [flatB_next, List.length_append]
            have h2 : (flatB R (k + 1)).length ≤ T := by rw [← TT.out]; exact flatB_mono R hlt
            omega
          have HP := hid (And.intro hsl hnl)
          clear hsl hcl hnl
          obtain ⟨va, vc, rfl⟩ := OwnB.shp (base := w.heap.size) ho
          have HOO : Hid (OwnB w.heap.size wr (.slice va _ vc) (flatB R _) ∧ Up Nul w wr) := ⟨ho, hu⟩
          clear ho hu
          have HFN := hid (flatB_next R k)
          generalize (R k).length = nk at x0 HP HFL
          go_wp2_with (first
            | (at_builtin; refine wpList_append_sl rfl (.tmp 31) (.tmp 32) rfl w.heap.size _ (flatB R k) rfl HOO.out.1 ak nk ck (R k) rfl HP.out.1 HP.out.2 HFL.out HOO.out.2.size ?_; intro v2 w2 H1 H2)
            | go_in)
          go_roundw
          case rel => exact ⟨k + 1, by omega, by go_num, by rw [HFN.out]; exact H1.out, HOO.out.2.grown H2.out fun q hq => HOO.out.1.base q hq⟩
          case measure => simp [intOf]; omega
        · obtain rfl : m = k := by omega
          obtain ⟨a, c, rfl, h1, h2, h3, h4⟩ := ho.sln (by rw [TT.out]; omega)
          rw [TT.out] at h1 h2 h3 h4 ⊢
          have HGO : Hid (Got w wr a T c (flatB R m)) := ⟨h2, h1, h4, h3, hu⟩
          clear h1 h2 h3 h4 ho hu
          go_wp2
          go_ret
          exact ⟨_, _, rfl, HGO.out⟩
theorem flatB_16 {R : Nat → List Nat} {m : Nat} (h : ∀ i, i < m → (R i).length = 16) : (flatB R m).length = 16 * m := by
  induction m with
  | zero => rfl
  | succ m ih =>
    rw [flatB_next, List.length_append, ih fun i hi => h i (by omega), h m (by omega)]
    omega

/-! ### 'Join' -/
theorem join_len (a : Option Addr) (n cap : Nat) (m : Int) (w : World) (h : n ≠ 4) :
    Calls Try.prog 9 #[.slice a n cap, .int .i64 m] w fun e w' => e = .returned (.tuple #[.slice none 0 0, .bool false]) ∧ w = w' := by
  have e1 : ((n : Int) == 4) = false := by simp; omega
  have e2 : ((n : Int) != 4) = true := by simp; omega
  clear h
  go_enter Try.func9, Try.ntmps9
  go_wp2
  go_ret2
  exact ⟨rfl, rfl⟩
/-- Four rows: joined, or refused. -/
def JoinE (R : Nat → List Nat) (m : Int) (w : World) (e : Ending) (w' : World) : Prop :=
  ((∃ i, i < 4 ∧ (R i).length ≠ 16) ∧ e = .returned (.tuple #[.slice none 0 0, .bool false]) ∧ Up Nul w w') ∨
  ((∀ i, i < 4 → (R i).length = 16) ∧ (m < 0 ∨ 64 < m) ∧ e = .returned (.tuple #[.slice none 0 0, .bool false]) ∧ Up Nul w w') ∨
  ((∀ i, i < 4 → (R i).length = 16) ∧ ∃ k : Nat, m = k ∧ k ≤ 64 ∧ ∃ a c, e = .returned (.tuple #[.slice a k c, .bool true]) ∧ Got w w' a k c ((flatB R 4).take k))
theorem join_four (g o cap : Nat) (R : Nat → List Nat) (m : Int) (w : World) (hR : SR w g o 4 R) :
    Calls Try.prog 9 #[.slice (some ⟨g, o, none⟩) 4 cap, .int .i64 m] w (JoinE R m w) := by
  have HC := hid (containsJ_any g o 4 cap R w hR (by omega))
  have HR := hid hR
  clear hR
  go_enter Try.func9, Try.ntmps9
  go_wp2_with fail
  refine HC.out.mono ?_
  rintro e w1 ⟨⟨rfl, hb⟩ | ⟨rfl, hb⟩, rfl⟩
  · have HB := hid hb
    clear hb HC
    go_wp2
    go_ret2
    exact .inl ⟨HB.out, rfl, Up.refl _ _⟩
  · have HB := hid hb
    have HL := hid (flatB_16 hb)
    have HK := hid (cats_b g o 4 cap R w1 (by omega) HR.out (by rw [flatB_16 hb]; omega) (by rw [flatB_16 hb]; omega))
    rw [HL.out] at HK
    clear hb HC
    go_wp2_with fail
    refine HK.out.mono ?_
    rintro e w2 ⟨a, c, rfl, k1⟩
    have K1 := hid k1
    clear k1 HK
    by_cases hm : m < 0 ∨ 64 < m
    · have HM := hid hm
      have HP := hid (part_bad a (16 * 4) c 0 m w2 (by omega) (by omega))
      clear hm
      go_wp2_with fail
      refine HP.out.mono ?_
      rintro e w3 ⟨rfl, rfl⟩
      go_wp2
      go_ret2
      exact .inr (.inl ⟨HB.out, HM.out, rfl, K1.out.up⟩)
    · obtain ⟨k, rfl⟩ : ∃ k : Nat, m = k := ⟨m.toNat, by omega⟩
      have hk : k ≤ 64 := by omega
      have HP := hid (part_good a (16 * 4) c 0 k (flatB R 4) w2 K1.out.sl K1.out.cap K1.out.nil (by omega) (by omega))
      clear hm
      go_wp2_with fail
      refine HP.out.mono ?_
      rintro e w3 ⟨a3, c3, rfl, k3⟩
      have HE : Hid (Got w1 w3 a3 k c3 ((flatB R 4).take k)) := ⟨by have := k3.sl; rwa [List.drop_zero] at this, k3.cap, k3.nil, fun h => by
        obtain ⟨g, o, e, hg⟩ := k3.new h
        exact ⟨g, o, e, Nat.le_trans K1.out.up.size hg⟩, K1.out.up.trans k3.up⟩
      clear k3 HP
      go_wp2
      go_ret2
      exact .inr (.inr ⟨HB.out, k, rfl, hk, a3, c3, rfl, HE.out⟩)
end Go.Proofs.Ytcigmbjipnchaaa
