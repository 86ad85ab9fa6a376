/- The document's own 'CodeMay'; 'Size', 'Coef' of a Code. -/
import Derived.Test.YtebglmfdchfplaaCodeStr
namespace Go.Proofs.Ytebglmfdchfplaa
open Go.RowKit
set_option linter.unusedVariables false

theorem may_long (n1 c1 n2 c2 : Nat) (a1 a2 : Option Addr) (w : World) (h : (n1 < 1 ∨ 14 < n1) ∨ (n2 < 1 ∨ 4 < n2)) :
    Calls Try.prog 19 #[.slice a1 n1 c1, .slice a2 n2 c2] w fun e w' => e = .returned (.bool false) ∧ w' = w := by
  by_cases h1 : n1 < 1
  · have i1 : (n1 : Int) < 1 := by omega
    clear h
    go_enter Try.func19, Try.ntmps19
    go_wp2
    go_ret
    exact ⟨rfl, rfl⟩
  have i1 : ¬ (n1 : Int) < 1 := by omega
  by_cases h2 : 14 < n1
  · have i2 : (14 : Int) < (n1 : Int) := by omega
    clear h
    go_enter Try.func19, Try.ntmps19
    go_wp2
    go_ret
    exact ⟨rfl, rfl⟩
  have i2 : ¬ (14 : Int) < (n1 : Int) := by omega
  by_cases h3 : n2 < 1
  · have i3 : (n2 : Int) < 1 := by omega
    clear h
    go_enter Try.func19, Try.ntmps19
    go_wp2
    go_ret
    exact ⟨rfl, rfl⟩
  have i3 : ¬ (n2 : Int) < 1 := by omega
  have i4 : (4 : Int) < (n2 : Int) := by omega
  clear h
  go_enter Try.func19, Try.ntmps19
  go_wp2
  go_ret
  exact ⟨rfl, rfl⟩
set_option maxRecDepth 100000 in
set_option maxHeartbeats 1600000 in
theorem may_any (FS : List Nat) (b1 o1 c1 b2 o2 c2 k r : Nat) (X Y : List Nat) (w : World) (rX : LR FS w b1 o1 X) (rY : LR FS w b2 o2 Y) (lX : X.length = k) (lY : Y.length = r) (k1 : 1 ≤ k) (k14 : k ≤ 14) (r1 : 1 ≤ r) (r4 : r ≤ 4) :
    Calls Try.prog 19 #[.slice (some ⟨b1, o1, none⟩) k c1, .slice (some ⟨b2, o2, none⟩) r c2] w
      fun e w' => ((e = .returned (.bool true) ∧ Dst (X ++ Y)) ∨ (e = .returned (.bool false) ∧ ¬ Dst (X ++ Y))) ∧ Up Nul w w' := by
  have HX := hid (And.intro (And.intro rX rY) (And.intro lX lY))
  have i1 : ¬ (k : Int) < 1 := by omega
  have i2 : ¬ (14 : Int) < (k : Int) := by omega
  have i3 : ¬ (r : Int) < 1 := by omega
  have i4 : ¬ (4 : Int) < (r : Int) := by omega
  clear rX rY lX lY
  obtain ⟨z, Z⟩ : ∃ z : List Nat, Hid (X ++ Y = z) := ⟨_, rfl⟩
  rw [Z.out]
  have HLEN : Hid (([] ++ X ++ Y : List Nat).length = k + r) := by show _ = _; rw [List.length_append, List.nil_append, HX.out.2.1, HX.out.2.2]
  go_enter Try.func19, Try.ntmps19
  have UA := hid ((Up.refl Nul w).alloc (.cells #[] 5))
  go_wp2_with (first
    | (at_builtin; refine wpList_append_bytes rfl (.tmp 26) (.tmp 27) rfl w.heap.size _ [] rfl (OwnB.fresh w.heap.size w (Nat.le_refl _)) b1 o1 k c1 X rfl (HX.out.1.1.row.up UA.out HX.out.1.1.lt id) HX.out.2.1 (by simp; omega) UA.out.size ?_; intro v2 w2 G1 G2; have U2 := hid (UA.out.grown G2.out fun q hq => (OwnB.fresh w.heap.size w (Nat.le_refl _)).base q hq))
    | (at_builtin; refine wpList_append_bytes rfl (.tmp 28) (.tmp 29) rfl w.heap.size v2 ([] ++ X) rfl G1.out b2 o2 r c2 Y rfl (HX.out.1.2.row.up U2.out HX.out.1.2.lt id) HX.out.2.2 (by have := HX.out.2.1; simp; omega) U2.out.size ?_; intro v3 w3 G3 G4; have U3 := hid (U2.out.grown G4.out fun q hq => G1.out.base q hq); obtain ⟨g, cap, rfl, g1, g2, g3, _, _⟩ := G3.out.row (by rw [HLEN.out]; omega); rw [HLEN.out]; have HG := hid (And.intro g3 g2); clear g1 g2 g3))
  have HZ : Hid (Row w3 g 0 z ∧ g < w3.heap.size ∧ z.length = k + r) := by
    refine ⟨?_, HG.out.2, ?_⟩
    · rw [← Z.out]; exact HG.out.1
    · rw [← Z.out, List.length_append, HX.out.2.1, HX.out.2.2]
  clear G1 G2 G3 G4 UA U2 i1 i2 i3 i4 HG HLEN
  go_loopw [6, 7] (fun i _ wr => ∃ t : Nat, t ≤ k + r ∧ i = .int .i64 t ∧ Up Nul w3 wr ∧ ∀ s u, s < u → u < t → z.getD u 0 ≠ z.getD s 0) (fun i _ _ => k + r - (intOf i).toNat)
  case atStart => exact ⟨0, by omega, rfl, Up.refl _ _, fun _ _ _ h => absurd h (Nat.not_lt_zero _)⟩
  case round =>
    obtain ⟨t, ht, rfl, hu, hne⟩ := hrel
    have HU := hid (And.intro hu hne)
    clear hu hne
    by_cases hlt : t < k + r
    · have i1 : (t : Int) < (k : Int) + (r : Int) := by omega
      have i0 : (0 : Int) ≤ (t : Int) := by omega
      go_wp2_with fail
      go_loopw [7] (fun j wx => ∃ s : Nat, s ≤ t ∧ j = .int .i64 s ∧ Up Nul w3 wx ∧ ∀ u, u < s → z.getD t 0 ≠ z.getD u 0) (fun j _ => t - (intOf j).toNat)
      case atStart => exact ⟨0, by omega, rfl, HU.out.1, fun _ h => absurd h (Nat.not_lt_zero _)⟩
      case round =>
        obtain ⟨s, hst, rfl, hu, hne⟩ := hrel
        have HV := hid (And.intro hu hne)
        clear hu hne
        by_cases hlt2 : s < t
        · have x1 := (HZ.out.1.up HV.out.1 HZ.out.2.1 id).cells t (by rw [HZ.out.2.2]; exact hlt)
          have x2 := (HZ.out.1.up HV.out.1 HZ.out.2.1 id).cells s (by rw [HZ.out.2.2]; omega)
          rw [Nat.zero_add] at x1 x2
          obtain ⟨a, A⟩ : ∃ a, Hid (z.getD t 0 = a) := ⟨_, rfl⟩
          obtain ⟨b, B⟩ : ∃ a, Hid (z.getD s 0 = a) := ⟨_, rfl⟩
          rw [A.out] at x1
          rw [B.out] at x2
          have j1 : (s : Int) < (k : Int) + (r : Int) := by omega
          have j0 : (0 : Int) ≤ (s : Int) := by omega
          by_cases hab : a = b
          · have hq : ((a : Int) == (b : Int)) = true := by rw [hab]; simp
            go_wp2_with fail
            go_region
            go_wp2
            go_ret
            exact ⟨.inr ⟨rfl, fun hd => by
              have := hd t s (by rw [HZ.out.2.2]; exact hlt) (by rw [HZ.out.2.2]; omega) (by rw [A.out, B.out, hab])
              omega⟩, U3.out.trans (HV.out.1.drewN _)⟩
          · have hq : ((a : Int) == (b : Int)) = false := by simp; omega
            go_wp2_with fail
            go_region
            go_wp2
            go_roundw
            case rel => exact ⟨s + 1, by omega, by go_num, HV.out.1.drewN _, fun u hu => by
              by_cases e : u = s
              · rw [e, A.out, B.out]; exact hab
              · exact HV.out.2 u (by omega)⟩
            case measure => simp [intOf]; omega
        · obtain rfl : s = t := by omega
          go_wp2
          go_roundw
          case rel => exact ⟨s + 1, by omega, by go_num, HV.out.1, fun x y hxy hy => by
            by_cases e : y = s
            · rw [e]; exact HV.out.2 x (by omega)
            · exact HU.out.2 x y hxy (by omega)⟩
          case measure => simp [intOf]; omega
    · obtain rfl : k + r = t := by omega
      go_wp2
      go_ret
      exact ⟨.inl ⟨rfl, fun x y hx hy e => by
        rw [HZ.out.2.2] at hx hy
        rcases Nat.lt_trichotomy x y with h | h | h
        · exact absurd e.symm (HU.out.2 x y h hy)
        · exact h
        · exact absurd e (HU.out.2 y x h hx)⟩, U3.out.trans HU.out.1⟩
end Go.Proofs.Ytebglmfdchfplaa
