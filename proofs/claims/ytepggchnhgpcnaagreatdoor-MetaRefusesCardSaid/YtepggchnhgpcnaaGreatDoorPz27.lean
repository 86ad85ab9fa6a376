/- Part 5 of what the walks rest on: RcSame. -/
import Derived.Test.YtepggchnhgpcnaaGreatDoorPkTidy
import Derived.Test.YtepggchnhgpcnaaGreatDoorPz26
namespace Go.Proofs.YtepggchnhgpcnaaGreatDoor
open Go.RowKit
set_option linter.unusedVariables false
set_option maxRecDepth 100000

theorem slocs_any (w : World) (a1 a2 : Option Addr) (c1 c2 : Nat) (ys zs : List Lo) (h1 : RowL w a1 ys) (h2 : RowL w a2 zs) (n1 : ys.length ≤ 100000) (n2 : zs.length ≤ 100000) :
  Calls Tryz.prog 42 #[.slice a1 ys.length c1, .slice a2 zs.length c2] w fun e w' => e = .returned (.bool (decide (ys = zs))) ∧ Up Nul w w' := by
 obtain ⟨R, HE⟩ : ∃ R, R = decide (ys = zs) := ⟨_, rfl⟩
 rw [← HE]
 have HE := hid HE
 by_cases hl : ys.length = zs.length
 ·obtain ⟨L, LL⟩ : ∃ L, Hid (ys.length = L) := ⟨_, rfl⟩
  have L2 : Hid (zs.length = L) := hl.symm.trans LL.out
  have HL : Hid (L ≤ 100000) := by show _ ≤ _; rw [← LL.out]; exact n1
  have HC : Hid (∀ i (y1 : i < ys.length) (y2 : i < zs.length), ∃ g1 o1 g2 o2, a1 = some ⟨g1, o1, none⟩ ∧ a2 = some ⟨g2, o2, none⟩ ∧ ∀ W, Up Nul w W → W.rangeAt g1 (o1 + i * 3) ys[i].cells ∧ W.rangeAt g2 (o2 + i * 3) zs[i].cells) := fun i y1 y2 => by
   rcases h1 with e | ⟨g1, o1, e1, l1, r1⟩
   ·simp [e] at y1
   ·rcases h2 with e | ⟨g2, o2, e2, l2, r2⟩
    ·simp [e] at y2
    ·exact ⟨g1, o1, g2, o2, e1, e2, fun W u => ⟨fun j v hj => (u.cell (p := ⟨g1, o1 + i * 3 + j, none⟩) l1 id).trans (r1 i _ (List.getElem?_eq_getElem y1) j v hj), fun j v hj => (u.cell (p := ⟨g2, o2 + i * 3 + j, none⟩) l2 id).trans (r2 i _ (List.getElem?_eq_getElem y2) j v hj)⟩⟩
  rw [LL.out, L2.out]
  clear h1 h2 n1 n2 hl
  have hll : ((L : Int) == (L : Int)) = true := by simp
  go_enter Tryz.func42, Tryz.ntmps42
  go_wp2_with fail
  go_loopw [5] (fun i wr => ∃ t : Nat, t ≤ L ∧ i = .int .i64 (t : Nat) ∧ Up Nul w wr ∧ Hid (∀ j (y1 : j < ys.length) (y2 : j < zs.length), j < t → ys[j] = zs[j])) (fun i _ => L - (intOf i).toNat)
  case atStart => exact ⟨0, Nat.zero_le _, rfl, Up.refl _ _, hid fun j _ _ h => absurd h (Nat.not_lt_zero _)⟩
  case round =>
   obtain ⟨t, ht, rfl, hu, HP⟩ := hrel
   have HU := hid hu
   clear hu
   have i0 : (0 : Int) ≤ (t : Int) := by omega
   have i2 : (t : Int) ≤ 100000 := by have := HL.out; omega
   by_cases hlt : t < L
   ·have i1 : (t : Int) < (L : Int) := by omega
    have y1 : Hid (t < ys.length) := by show _ < _; rw [LL.out]; exact hlt
    have y2 : Hid (t < zs.length) := by show _ < _; rw [L2.out]; exact hlt
    obtain ⟨g1, o1, g2, o2, rfl, rfl, hc⟩ := HC.out t y1.out y2.out
    have HK := hid hc
    have HV := HU
    obtain ⟨x, HX⟩ : ∃ x, Hid (ys[t]'y1.out = x) := ⟨_, rfl⟩
    obtain ⟨y, HY⟩ : ∃ y, Hid (zs[t]'y2.out = y) := ⟨_, rfl⟩
    rw [HX.out, HY.out] at HK
    have HT := hid hlt
    clear hc hlt ht
    by_cases hxy : x = y
    ·subst hxy
     go_upto_region 6 with fail
     refine wp_region_held_drew (S := (fun W => W.rangeAt g1 (o1 + t * 3) [.int .i64 x.d, .int .i64 x.s, .int .i64 x.i] ∧ W.rangeAt g2 (o2 + t * 3) [.int .i64 x.d, .int .i64 x.s, .int .i64 x.i])) (by kernel_rfl) (by exact HK.out _ HV.out.drew) (fun hHeld => ?_)
     refine tkv 0 (some 17) rfl ?_
     refine tkv 1 (some 18) rfl ?_
     refine tkv 2 (some 19) rfl ?_
     refine tkv 4 (some 21) rfl ?_
     refine tkv 5 (some 22) rfl ?_
     refine tkv 6 (some 23) rfl ?_
     refine wpAnyH_take (i := 3) (oi := ⟨some 20, _, _, _, _, _⟩) rfl (by kernel_rfl) (by kernel_rfl) (by kernel_rfl) (fun _ _ _ h => h) (yieldsIf_load_mid (by rfl) 64 (.tmp 19) rfl g1 (o1 + t * 3) rfl [.int .i64 x.d, .int .i64 x.s, .int .i64 x.i] _ (fun W hW => hW.1) Tryz.underlying64 rfl info_loc3) (by assumption) ?ra7
     try simp only [tdy]
     refine wpAnyH_take (i := 7) (oi := ⟨some 24, _, _, _, _, _⟩) rfl (by kernel_rfl) (by kernel_rfl) (by kernel_rfl) (fun _ _ _ h => h) (yieldsIf_load_mid (by rfl) 64 (.tmp 23) rfl g2 (o2 + t * 3) rfl [.int .i64 x.d, .int .i64 x.s, .int .i64 x.i] _ (fun W hW => hW.2) Tryz.underlying64 rfl info_loc3) (by assumption) ?ra8
     try simp only [tdy]
     refine wpAnyH_take (i := 8) (oi := ⟨some 25, _, _, _, _, _⟩) (v := .bool false) rfl (by kernel_rfl) (by kernel_rfl) (by kernel_rfl) (fun _ _ _ h => h) (Or.inl ⟨by rfl, ?ya9⟩) (by assumption) ?ra9
     case ya9 => exact fun W _ => exec_neq _ _ _ _ _ _ rfl _ _ rfl rfl (by kernel_rfl) _ _ (lo_neq W x)
     try simp only [tdy]
     refine wpAnyH_done (by kernel_rfl) ?_ _
     go_wp2_with fail
     go_roundw
     case rel =>
      refine ⟨t + 1, HT.out, by go_num, HV.out.drew, hid fun j y1' y2' hj => ?_⟩
      by_cases hjt : j < t
      ·exact HP.out j y1' y2' hjt
      ·obtain rfl : j = t := by omega
       exact HX.out.trans HY.out.symm
     case measure => have := HT.out; simp [intOf]; omega
    ·have hR : R = false := by
      rw [HE.out, decide_eq_false_iff_not]
      intro e
      subst e
      exact hxy (HX.out.symm.trans HY.out)
     go_upto_region 6 with fail
     refine wp_region_held_drew (S := (fun W => W.rangeAt g1 (o1 + t * 3) [.int .i64 x.d, .int .i64 x.s, .int .i64 x.i] ∧ W.rangeAt g2 (o2 + t * 3) [.int .i64 y.d, .int .i64 y.s, .int .i64 y.i])) (by kernel_rfl) (by exact HK.out _ HV.out.drew) (fun hHeld => ?_)
     refine tkv 0 (some 17) rfl ?_
     refine tkv 1 (some 18) rfl ?_
     refine tkv 2 (some 19) rfl ?_
     refine tkv 4 (some 21) rfl ?_
     refine tkv 5 (some 22) rfl ?_
     refine tkv 6 (some 23) rfl ?_
     refine wpAnyH_take (i := 3) (oi := ⟨some 20, _, _, _, _, _⟩) rfl (by kernel_rfl) (by kernel_rfl) (by kernel_rfl) (fun _ _ _ h => h) (yieldsIf_load_mid (by rfl) 64 (.tmp 19) rfl g1 (o1 + t * 3) rfl [.int .i64 x.d, .int .i64 x.s, .int .i64 x.i] _ (fun W hW => hW.1) Tryz.underlying64 rfl info_loc3) (by assumption) ?rb7
     try simp only [tdy]
     refine wpAnyH_take (i := 7) (oi := ⟨some 24, _, _, _, _, _⟩) rfl (by kernel_rfl) (by kernel_rfl) (by kernel_rfl) (fun _ _ _ h => h) (yieldsIf_load_mid (by rfl) 64 (.tmp 23) rfl g2 (o2 + t * 3) rfl [.int .i64 y.d, .int .i64 y.s, .int .i64 y.i] _ (fun W hW => hW.2) Tryz.underlying64 rfl info_loc3) (by assumption) ?rb8
     try simp only [tdy]
     refine wpAnyH_take (i := 8) (oi := ⟨some 25, _, _, _, _, _⟩) (v := .bool true) rfl (by kernel_rfl) (by kernel_rfl) (by kernel_rfl) (fun _ _ _ h => h) (Or.inl ⟨by rfl, ?yb9⟩) (by assumption) ?rb9
     case yb9 => exact fun W _ => exec_neq _ _ _ _ _ _ rfl _ _ rfl rfl (by kernel_rfl) _ _ (lo_neq2 W x y hxy)
     try simp only [tdy]
     refine wpAnyH_done (by kernel_rfl) ?_ _
     go_wp2_with fail
     go_ret
     exact ⟨by rw [hR]; rfl, HV.out.drew⟩
   ·obtain rfl : t = L := by omega
    have hR : R = true := by
     rw [HE.out, decide_eq_true_iff]
     exact list_take_all LL.out L2.out (fun i a b => HP.out i a b (by rw [← LL.out]; exact a))
    go_wp2_with fail
    go_ret
    exact ⟨by rw [hR]; rfl, HU.out⟩
 ·have hR : R = false := by
   rw [HE.out, decide_eq_false_iff_not]
   exact list_ne_len hl
  have hll : (((ys.length : Nat) : Int) == ((zs.length : Nat) : Int)) = false := by simp; omega
  generalize ys.length = y at n1 hll hl ⊢
  generalize zs.length = z at n2 hll hl ⊢
  go_enter Tryz.func42, Tryz.ntmps42
  go_wp2_with fail
  go_ret
  exact ⟨by rw [hR]; rfl, Up.refl _ _⟩
end Go.Proofs.YtepggchnhgpcnaaGreatDoor

