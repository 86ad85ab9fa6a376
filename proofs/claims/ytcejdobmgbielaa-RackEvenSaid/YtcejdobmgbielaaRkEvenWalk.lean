/- The law RackEven, walked, whatever the program's Rack is. -/
import Derived.Test.YtcejdobmgbielaaRkMath
import Derived.Deep.CutBlock
import Derived.Deep.DeepCutAuto
namespace Go.Proofs.Ytcejdobmgbielaa
open Go.RowKit
set_option linter.unusedVariables false

set_option maxRecDepth 100000 in
set_option maxHeartbeats 3200000 in
theorem reven_nat (O : RackOps) (a0 : Int) (a1 : Option Addr) (l1 c1 : Nat) (f : Nat → Int) (w : World) (hf : SlI w a1 l1 f) :
    Calls Try.prog 5 #[.int .i64 a0, .slice a1 l1 c1] w fun e w' => e = .returned (.bool true) ∧ Below w.heap.size w w' := by
  have HF := hid hf
  have l2 : (l1 : Int) ≤ 9223372036854775807 := by have := hf.le; omega
  obtain ⟨m0, hm0, _⟩ := FrL.mask8 a0
  obtain ⟨k0, hk0, hk24⟩ := FrL.rem_lit m0 24 (by omega)
  have hk0 : (m0 : Int) % 24 = (k0 : Int) := hk0
  obtain ⟨n, N⟩ : ∃ n : Nat, n = k0 + 1 := ⟨_, rfl⟩
  have hn1 : (k0 : Int) + 1 = (n : Int) := by omega
  have HN : Hid (1 ≤ n ∧ n ≤ 24) := by show _ ∧ _; omega
  have n0 : (n : Int) ≤ 24 := by omega
  have n9 : (1 : Int) ≤ (n : Int) := by omega
  clear hf N hk24
  go_enter Try.func5, Try.ntmps5
  go_wp2_with fail
  refine (rh_new (n := n) (m := 30) (fu := none) (k := none) O (Up.refl Nul w) rfl (fun f e => by cases e) HN.out.1 HN.out.2 (by omega) (by omega)).mono ?_
  rintro e w1 ⟨r, D, rfl, h1, hD, _⟩
  have H1 := hid h1
  have HB1 : Hid (Bal n 30 D) := Bal.new hD
  have HL1 : Hid (∀ d, d < n → (D d).live = true) := hD.live
  clear h1 hD hm0 hk0 hn1
  go_wp2_with fail
  go_loopw [7] (fun i wr => ∃ j : Nat, j ≤ 40 ∧ j ≤ l1 ∧ i = .int .i64 (j : Nat) ∧ ∃ D nx, RH O Nul w wr r n 30 none none D nx ∧ Bal n 30 D ∧ (∀ d, d < n → (D d).live = true) ∧ nx ≤ 1 + 24 * j) (fun i _ => 40 - (intOf i).toNat)
  case atStart => exact ⟨0, by omega, by omega, rfl, D, 1, H1.out, HB1.out, HL1.out, by omega⟩
  case round =>
    obtain ⟨j, hj, hjl, rfl, D, nx, hr, hb, hl, hx⟩ := hrel
    have HR := hid hr
    have HB := hid hb
    have HL := hid hl
    have HX := hid hx
    clear hr hb hl hx H1 HB1 HL1
    have j0 : (0 : Int) ≤ (j : Int) := by omega
    by_cases hlj : j < l1
    · have j1 : (j : Int) < (l1 : Int) := by omega
      by_cases h40 : j < 40
      · have j2 : (j : Int) < 40 := by omega
        have HJ := hid (And.intro h40 hlj)
        obtain ⟨lg, lo, rfl, hlg, hcl⟩ : ∃ g o, a1 = some ⟨g, o, none⟩ ∧ g < w.heap.size ∧ ∀ W, Up Nul w W → W.cell? ⟨g, o + j, none⟩ = some (.int .i64 (f j)) := by
          rcases HF.out.row with e | ⟨g, o, e, hg, hc⟩
          · omega
          · exact ⟨g, o, e, hg, fun W u => (u.cell (p := ⟨g, o + j, none⟩) hg (fun h => h)).trans (hc j hlj)⟩
        have y0 := hcl _ HR.out.up
        obtain ⟨mm, hm, _⟩ := FrL.mask8 (f j)
        obtain ⟨n1, N1⟩ : ∃ n1 : Nat, n1 = n + 1 := ⟨_, rfl⟩
        obtain ⟨k, hk, hkn⟩ := FrL.rem_lit mm n1 (by omega)
        have hn2 : (n : Int) + 1 = (n1 : Int) := by omega
        have n2 : ¬ (n1 : Int) = 0 := by omega
        have HK : Hid (k ≤ n) := by show _ ≤ _; omega
        clear hcl hlg hj hjl h40 hlj N1 hkn
        go_wp2_with fail
        refine (rh_place HR.out (k : Nat) (-1) 0 (slInil wr fun _ => 0) (by omega) (by have := HK.out; have := HN.out; omega)).mono ?_
        rintro e w3 (⟨_, p, a, c, ht, rfl, hp, h3, u3⟩ | ⟨hno, ⟨b, c, rfl⟩, h3, u3⟩)
        · have HPC := hid ht.plc
          have HP24 := hid (ht.le HN.out.2)
          have H3 := hid h3
          have HP := hid hp
          clear h3 ht hp u3
          go_wp2_with fail
          refine (rh_take H3.out c HP.out HPC.out.nodup (fun d hd => ⟨(HPC.out.all d hd).1, (HPC.out.all d hd).2.2.1⟩) (by have := HX.out; have := HJ.out; omega)).mono ?_
          rintro e w4 ⟨v, D', rfl, hv, hy, hn, h4, sp, sz⟩
          have H4 := hid (h4.less (Q := Nul) fun _ h => h.elim)
          have HB4 : Hid (Bal n 30 D') := HB.out.take HL.out (fun d ⟨i, hi, _⟩ => absurd hi (Nat.not_lt_zero i)) HPC.out hy hn
          have HL4 : Hid (∀ d, d < n → (D' d).live = true) := live_take HL.out hy hn
          have HX4 : Hid (nx + p.length ≤ 1 + 24 * (j + 1)) := by show _ ≤ _; have := HX.out; have := HP24.out; omega
          clear hy hn h4 sp sz HP H3 HR
          go_upto_block 2 with fail
          go_cut [13, 14] (fun s13 s14 wx => ∃ x y : Nat, s13 = .int .i64 (x : Nat) ∧ s14 = .int .i64 (y : Nat) ∧ y ≤ x + 1 ∧ x ≤ 100 ∧ RH O Nul w wx r n 30 none none D' (nx + p.length))
          case first =>
            as_aux_lemma =>
              go_wp2_with fail
              go_loopw [13, 14, 15] (fun s13 s14 s15 wx => ∃ t : Nat, t ≤ n ∧ s15 = .int .i64 (t : Nat) ∧ ∃ x y : Nat, s13 = .int .i64 (x : Nat) ∧ s14 = .int .i64 (y : Nat) ∧ ((t = 0 ∧ x = 99 ∧ y = 0) ∨ ∃ a b, a < n ∧ b < n ∧ x = fre 30 (D' a) ∧ y = fre 30 (D' b)) ∧ RH O Nul w wx r n 30 none none D' (nx + p.length)) (fun _ _ i _ => n - (intOf i).toNat)
              case atStart => exact ⟨0, by omega, rfl, 99, 0, rfl, rfl, .inl ⟨rfl, rfl, rfl⟩, H4.out⟩
              case round =>
                obtain ⟨t, ht, rfl, x, y, rfl, rfl, hxy, hr⟩ := hrel
                have HXY := hid hxy
                have HR := hid hr
                clear hxy hr H4
                have t0 : (0 : Int) ≤ (t : Int) := by omega
                by_cases hlt : t < n
                · have t1 : (t : Int) < (n : Int) := by omega
                  have HT := hid hlt
                  obtain ⟨v, VE⟩ : ∃ v, Hid (fre 30 (D' t) = v) := ⟨_, rfl⟩
                  have hv30 : v ≤ 30 := by rw [← VE.out]; exact fre_le _ _
                  obtain ⟨x', hx', HX'⟩ : ∃ x' : Nat, min (x : Int) (v : Int) = (x' : Int) ∧ Hid (∃ a, a < n ∧ x' = fre 30 (D' a)) := by
                    refine ⟨min x v, by omega, ?_⟩
                    rcases HXY.out with ⟨_, h1, _⟩ | ⟨a, b, ha, _, h1, _⟩
                    · exact ⟨t, hlt, by rw [VE.out]; omega⟩
                    · by_cases h : x ≤ v
                      · exact ⟨a, ha, by rw [← h1]; omega⟩
                      · exact ⟨t, hlt, by rw [VE.out]; omega⟩
                  obtain ⟨y', hy', HY'⟩ : ∃ y' : Nat, max (y : Int) (v : Int) = (y' : Int) ∧ Hid (∃ a, a < n ∧ y' = fre 30 (D' a)) := by
                    refine ⟨max y v, by omega, ?_⟩
                    rcases HXY.out with ⟨_, _, h1⟩ | ⟨a, b, _, hb, _, h1⟩
                    · exact ⟨t, hlt, by rw [VE.out]; omega⟩
                    · by_cases h : v ≤ y
                      · exact ⟨b, hb, by rw [← h1]; omega⟩
                      · exact ⟨t, hlt, by rw [VE.out]; omega⟩
                  clear hlt ht
                  go_wp2_with fail
                  refine (rh_bay HR.out HT.out).mono ?_
                  rintro e w5 ⟨rfl, h5, u5⟩
                  have H5 := hid h5
                  clear h5 u5
                  go_wp2_with fail
                  refine (rh_free H5.out HT.out).mono ?_
                  rintro e w6 ⟨he, h6, u6⟩
                  rw [VE.out] at he
                  subst he
                  have H6 := hid h6
                  clear h6 u6
                  go_wp2_with fail
                  refine (rh_free H6.out HT.out).mono ?_
                  rintro e w7 ⟨he, h7, u7⟩
                  rw [VE.out] at he
                  subst he
                  have H7 := hid h7
                  clear h7 u7
                  go_wp2_with fail
                  go_roundw
                  case rel =>
                    obtain ⟨a, ha, ea⟩ := HX'.out
                    obtain ⟨b, hb, eb⟩ := HY'.out
                    exact ⟨t + 1, HT.out, by go_num, x', y', rfl, rfl, .inr ⟨a, b, ha, hb, ea, eb⟩, H7.out⟩
                  case measure => have := HT.out; simp [intOf]; omega
                · have t1 : ¬ (t : Int) < (n : Int) := by omega
                  have hte : t = n := by omega
                  have HE : Hid (y ≤ x + 1 ∧ x ≤ 100) := by
                    show _ ∧ _
                    rcases HXY.out with ⟨h0, _, _⟩ | ⟨a, b, ha, hb, h1, h2⟩
                    · have := HN.out; omega
                    · have := HB4.out b a hb ha
                      have := fre_le 30 (D' a)
                      omega
                  clear hlt ht hte
                  go_wp2_with fail
                  go_meet
                  case rel => exact ⟨x, y, rfl, rfl, HE.out.1, HE.out.2, HR.out⟩
          case rest =>
            obtain ⟨x, y, rfl, rfl, hxy, hx100, h5⟩ := hcut
            have H5 := hid h5
            have x0 : (x : Int) ≤ 100 := by omega
            have x1 : ¬ (1 : Int) < (y : Int) - (x : Int) := by omega
            have x2 : IntKind.i64.wrap ((y : Int) - (x : Int)) = (y : Int) - (x : Int) := IntWalk.i64_in _ (by omega)
            clear h5 hxy hx100 H4
            go_wp2_with fail
            go_roundw
            case rel => exact ⟨j + 1, HJ.out.1, HJ.out.2, by go_num, _, _, H5.out, HB4.out, HL4.out, HX4.out⟩
            case measure => have := HJ.out; simp [intOf]; omega
        · have H3 := hid h3
          clear h3 u3 hno HR
          go_wp2_with fail
          go_roundw
          case rel => exact ⟨j + 1, HJ.out.1, HJ.out.2, by go_num, _, _, H3.out, HB.out, HL.out, by have := HX.out; omega⟩
          case measure => have := HJ.out; simp [intOf]; omega
      · have j2 : ¬ (j : Int) < 40 := by omega
        have HU := hid HR.out.up
        clear h40 hj hjl hlj HR
        go_wp2_with fail
        refine (kawake_any O _).mono ?_
        rintro e w7 ⟨rfl, k7⟩
        have H7 := hid (HU.out.trans k7)
        clear k7
        go_wp2
        go_ret
        exact ⟨rfl, H7.out.below (Nat.le_refl _) fun _ _ h => h⟩
    · have j1 : ¬ (j : Int) < (l1 : Int) := by omega
      have HU := hid HR.out.up
      clear hj hjl hlj HR
      go_wp2_with fail
      refine (kawake_any O _).mono ?_
      rintro e w7 ⟨rfl, k7⟩
      have H7 := hid (HU.out.trans k7)
      clear k7
      go_wp2
      go_ret
      exact ⟨rfl, H7.out.below (Nat.le_refl _) fun _ _ h => h⟩
theorem reven_walk (O : RackOps) (a0 : Int) (a1 : Option Addr) (l1 c1 : Nat) (z1 : List Int) (w : World) (w1 : CameI w a1 l1 c1 z1) :
    Calls Try.prog 5 #[.int .i64 a0, .slice a1 l1 c1] w fun e w' => e = .returned (.bool true) ∧ Below w.heap.size w w' := by
  obtain ⟨f, hf⟩ := SlI.of w1
  exact reven_nat O a0 a1 l1 c1 f w hf
end Go.Proofs.Ytcejdobmgbielaa
