/- What the laws of stage 5 ask at their ends. -/
import Derived.Test.YtmaffnadmfphpaaGreatConvNew
namespace Go.Proofs.YtmaffnadmfphpaaGreat
open Go.RowKit
set_option linter.unusedVariables false

theorem cfo_ris {k r a b : Nat} {j i : Nat} (hj : j < r) (hi : i < k) : cfo k r (ris a k) (ris b r) (j : Int) (i : Int) = GfM.inv ((b + j) ^^^ (a + i)) := by
  unfold cfo
  rw [if_pos (by omega)]
  simp only [Int.toNat_natCast]
  rw [ris_at hj, ris_at hi]
theorem inv_inj {x y : Nat} (hx : x ≠ 0) (hy : y ≠ 0) (hx8 : x < 256) (hy8 : y < 256) (h : GfM.inv x = GfM.inv y) : x = y := by
  rw [← GfM.inv_inv hx hx8, ← GfM.inv_inv hy hy8, h]
theorem xor_ne0 {x y : Nat} (h : x ≠ y) : x ^^^ y ≠ 0 := fun e => h (by rw [← Nat.xor_zero x, ← e, ← Nat.xor_assoc, Nat.xor_self, Nat.zero_xor])
/-- The share of byte a in parity j of the wide code is that of byte i of colour t's only at its place. -/
theorem share_iff {t i j a : Nat} (ht : t < 3) (hi : i < 4) (hj : j < 2) (ha : a < 14) :
    (cfo 14 4 (ris 0 14) (ris 14 4) (j : Int) (a : Int) = cfo 4 2 (ris (4 * t) 4) (ris 14 2) (j : Int) (i : Int)) ↔ a = 4 * t + i := by
  rw [cfo_ris (by omega) ha, cfo_ris hj hi, Nat.zero_add]
  constructor
  · intro h
    have := inv_inj (xor_ne0 (by omega)) (xor_ne0 (by omega)) (GfM.xor_lt (by omega) (by omega)) (GfM.xor_lt (by omega) (by omega)) h
    have h2 : (14 + j) ^^^ ((14 + j) ^^^ a) = (14 + j) ^^^ ((14 + j) ^^^ (4 * t + i)) := by rw [this]
    rwa [← Nat.xor_assoc, ← Nat.xor_assoc, Nat.xor_self, Nat.zero_xor, Nat.zero_xor] at h2
  · rintro rfl
    rfl
theorem csizeL {FS : List Nat} {w : World} {c F k r pp pq sp sq : Nat} {Z : List Nat} (hc : CD FS w c F k r pp pq sp sq Z) :
    Calls Tryz.prog 23 #[.pointer (some ⟨c, 0, none⟩)] w fun e w' => e = .returned (.tuple #[.int .i64 k, .int .i64 r]) ∧ Up Nul w w' := by
  refine (csize_any hc).mono ?_
  rintro e w' ⟨h, n, rfl⟩
  exact ⟨h, (Up.refl _ _).drewN n⟩
set_option maxRecDepth 100000 in
set_option maxHeartbeats 1600000 in
theorem cawake_any (w : World) : Calls Tryz.prog 7 #[] w fun e w' => e = .returned (.bool true) ∧ Up Nul w w' := by
  have HV : Hid (cfo 14 4 (ris 0 14) (ris 14 4) 0 4 = cfo 4 2 (ris (4 * 1) 4) (ris 14 2) 0 0) := (share_iff (t := 1) (i := 0) (j := 0) (a := 4) (by omega) (by omega) (by omega) (by omega)).2 rfl
  obtain ⟨v, V⟩ : ∃ v, Hid (cfo 4 2 (ris (4 * 1) 4) (ris 14 2) 0 0 = v) := ⟨_, rfl⟩
  rw [V.out] at HV
  go_enter Tryz.func7, Tryz.ntmps7
  go_wp2_with fail
  refine (gfNewF _).mono ?_
  rintro e wa ⟨F, rfl, k1⟩
  have H1 := hid ((LS.start w).newF k1)
  clear k1
  go_wp2_with fail
  refine (narrowL H1.out (List.mem_cons_self ..) 1 (by omega)).mono ?_
  rintro e wb ⟨c, pp, pq, sp, sq, rfl, hc, n1⟩
  have H2 := hid (And.intro (H1.out.nxt n1) hc)
  clear hc n1
  go_wp2_with fail
  refine (wideL H2.out.1 (List.mem_cons_self ..)).mono ?_
  rintro e wc ⟨d, qp, qq, tp, tq, rfl, hd, n2⟩
  have H3 := hid (And.intro (H2.out.1.nxt n2) (And.intro (H2.out.2.nxt n2) hd))
  clear hd n2
  go_wp2_with fail
  refine (narrow_bad H3.out.1 _ 3 (by omega)).mono ?_
  rintro e wd ⟨rfl, n3⟩
  have H4 := hid (And.intro (H3.out.1.nxt n3) (And.intro (H3.out.2.1.nxt n3) (H3.out.2.2.nxt n3)))
  clear n3
  go_wp2_with fail
  refine (csizeL H4.out.2.1).mono ?_
  rintro e we ⟨rfl, u4⟩
  have n4 := H4.out.1.nul u4
  have H5 := hid (And.intro (H4.out.1.nxt n4) (And.intro (H4.out.2.1.nxt n4) (H4.out.2.2.nxt n4)))
  clear n4 u4
  go_wp2_with fail
  refine (csizeL H5.out.2.2).mono ?_
  rintro e wf ⟨rfl, u5⟩
  have n5 := H5.out.1.nul u5
  have H6 := hid (And.intro (H5.out.1.nxt n5) (And.intro (H5.out.2.1.nxt n5) (H5.out.2.2.nxt n5)))
  clear n5 u5 H1 H2 H3 H4 H5
  go_wp2_with fail
  refine (coefL H6.out.2.1 0 0).mono ?_
  rintro e wA ⟨rfl, uA⟩
  have nA := H6.out.1.nul uA
  have HA := hid (And.intro (H6.out.1.nxt nA) (H6.out.2.2.nxt nA))
  clear nA uA
  rw [V.out]
  go_wp2_with fail
  refine (coefL HA.out.2 0 4).mono ?_
  rintro e wB ⟨rfl, uB⟩
  have HB := hid (HA.out.1.nxt (HA.out.1.nul uB))
  clear uB
  rw [HV.out]
  go_wp2
  go_ret
  exact ⟨rfl, HB.out.up⟩
theorem cawakeL {w0 w : World} {FS : List Nat} (h : LS w0 FS w) : Calls Tryz.prog 7 #[] w fun e w' => e = .returned (.bool true) ∧ Nxt FS w w' :=
  (cawake_any w).mono fun e w' ⟨h1, h2⟩ => ⟨h1, h.nul h2⟩
end Go.Proofs.YtmaffnadmfphpaaGreat
