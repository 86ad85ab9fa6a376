/- 'awake' of stage 11; the law TapeCuts, walked, whatever the program's Tape is. -/
import Derived.Test.YtgncdikikcifpaaTpFace
import Derived.StillTailTactics
namespace Go.Proofs.Ytgncdikikcifpaa
open Go.RowKit
set_option linter.unusedVariables false

set_option maxRecDepth 100000 in
set_option maxHeartbeats 1600000 in
theorem tawake_any (O : TapeOps) (w : World) : Calls Try.prog 8 #[] w fun e w' => e = .returned (.bool true) ∧ Up Nul w w' := by
  go_enter Try.func8, Try.ntmps8
  go_wp2_with fail
  refine (th_new (fu := none) (k := none) O (Up.refl Nul w) rfl (fun f e => by cases e)).mono ?_
  rintro e w1 ⟨t, rfl, h1, _⟩
  have H1 : Hid (TH O (fun x => x = w1.heap.size) w (w1.alloc (.cells #[.int .u8 1, .int .u8 2, .int .u8 3] 5)) t none none ⟨[], 0, true⟩) := h1.owns ((Up.refl _ _).alloc _) fun x hx => .inr ⟨by omega, by rw [hx]; simp⟩
  have HS : Hid (SlN (w1.alloc (.cells #[.int .u8 1, .int .u8 2, .int .u8 3] 5)) (some ⟨w1.heap.size, 0, none⟩) 3 [1, 2, 3]) := slm_mark w1 [1, 2, 3] _ (by decide) (by decide) _ rfl
  clear h1
  go_wp2_with fail
  refine (th_put H1.out 3 HS.out (by omega) (by decide) (.inr fun x hx => by cases hx; exact .inl rfl) rfl).mono ?_
  rintro e w2 ⟨rfl, h2, _⟩
  have H2 := hid h2
  clear h2 H1 HS
  go_wp2_with fail
  refine (th_crash H2.out 2 rfl).mono ?_
  rintro e w3 ⟨rfl, h3, _⟩
  have H3 : Hid (TH O (fun x => x = w1.heap.size) w w3 t none none ⟨[1, 2], 0, true⟩) := h3
  clear h3 H2
  go_wp2_with fail
  refine (th_bytes H3.out rfl).mono ?_
  rintro e w4 ⟨a, l, c, rfl, hs, h4, _⟩
  have H4 := hid h4
  have hcv : (convert 22 9 (.slice a l c)).run Try.prog w4 = .ok (.string ⟨#[1, 2]⟩) w4 := hs.conv c
  have hqq : ((⟨#[1, 2]⟩ : ByteArray).toList == (⟨#[1, 2]⟩ : ByteArray).toList) = true := by simp
  clear hs h4 H3
  go_wp2_with fail
  refine (th_loose H4.out rfl).mono ?_
  rintro e w5 ⟨rfl, h5, _⟩
  have H5 := hid h5
  clear h5 H4
  go_wp2_with fail
  refine (th_live H5.out).mono ?_
  rintro e w6 ⟨rfl, h6, _⟩
  have H6 : Hid (Up Nul w w6) := h6.up
  clear h6 H5
  go_wp2
  go_ret
  exact ⟨rfl, H6.out⟩
theorem SlN.upto {w : World} {a : Option Addr} {n : Nat} {z : List Nat} (h : SlN w a n z) (m cap : Nat) (hm : m ≤ n) (hc : n ≤ cap) : SlN w a m (z.take m) := by
  have e : atOff a 0 cap = a := by
    unfold atOff
    split
    · rfl
    · cases a <;> simp [Addr.add]
  have := h.mid 0 m cap (by omega) hc
  rw [e, List.drop_zero] at this
  exact this
set_option maxRecDepth 100000 in
theorem tcuts_long (O : TapeOps) (a0 : Option Addr) (l0 c0 : Nat) (a1 : Option Addr) (l1 c1 : Nat) (a2 a3 : Int) (w : World) (h : 500 < l0 ∨ 500 < l1) :
    Calls Try.prog 3 #[.slice a0 l0 c0, .slice a1 l1 c1, .int .i64 a2, .int .i64 a3] w fun e w' => e = .returned (.bool true) ∧ Below w.heap.size w w' := by
  have HN := hid (th_new (fu := none) (k := none) O (Up.refl Nul w) rfl (fun f e => by cases e))
  by_cases h1 : 500 < l0
  · have i1 : (500 : Int) < (l0 : Int) := by omega
    clear h
    go_enter Try.func3, Try.ntmps3
    go_wp2_with fail
    refine HN.out.mono ?_
    rintro e w1 ⟨t, rfl, h1, u1⟩
    have U1 := hid u1
    clear h1 u1 HN
    go_wp2_with fail
    refine (tawake_any O _).mono ?_
    rintro e w2 ⟨rfl, k2⟩
    have H2 := hid (U1.out.trans k2)
    clear k2
    go_wp2
    go_ret
    exact ⟨rfl, H2.out.below (Nat.le_refl _) fun _ _ h => h⟩
  · have i1 : ¬ (500 : Int) < (l0 : Int) := by omega
    have i2 : (500 : Int) < (l1 : Int) := by omega
    clear h
    go_enter Try.func3, Try.ntmps3
    go_wp2_with fail
    refine HN.out.mono ?_
    rintro e w1 ⟨t, rfl, h1, u1⟩
    have U1 := hid u1
    clear h1 u1 HN
    go_wp2_with fail
    refine (tawake_any O _).mono ?_
    rintro e w2 ⟨rfl, k2⟩
    have H2 := hid (U1.out.trans k2)
    clear k2
    go_wp2
    go_ret
    exact ⟨rfl, H2.out.below (Nat.le_refl _) fun _ _ h => h⟩
set_option maxRecDepth 100000 in
set_option maxHeartbeats 3200000 in
theorem tcuts_short (O : TapeOps) (a0 : Option Addr) (l0 c0 : Nat) (z0 : List Nat) (a1 : Option Addr) (l1 c1 : Nat) (z1 : List Nat) (a2 a3 : Int) (w : World) (h0 : l0 ≤ 500) (h1 : l1 ≤ 500) (hc0 : l0 ≤ c0) (hc1 : l1 ≤ c1) (hz0 : SlN w a0 l0 z0) (hz1 : SlN w a1 l1 z1) (ho0 : Off Nul w a0 l0) (ho1 : Off Nul w a1 l1) :
    Calls Try.prog 3 #[.slice a0 l0 c0, .slice a1 l1 c1, .int .i64 a2, .int .i64 a3] w fun e w' => e = .returned (.bool true) ∧ Below w.heap.size w w' := by
  have HZ0 := hid hz0
  have HZ1 := hid hz1
  have HC := hid (And.intro hc0 hc1)
  have HO := hid (And.intro ho0 ho1)
  have HL : Hid (z0.length = l0 ∧ z1.length = l1 ∧ l0 ≤ 500 ∧ l1 ≤ 500) := ⟨hz0.len, hz1.len, h0, h1⟩
  have i1 : ¬ (500 : Int) < (l0 : Int) := by omega
  have i2 : ¬ (500 : Int) < (l1 : Int) := by omega
  obtain ⟨m2, hm2, _⟩ := FrL.mask16 a2
  obtain ⟨m3, hm3, _⟩ := FrL.mask16 a3
  obtain ⟨d0, D0⟩ : ∃ d : Nat, d = l0 + 1 := ⟨_, rfl⟩
  obtain ⟨d1, D1⟩ : ∃ d : Nat, d = l1 + 1 := ⟨_, rfl⟩
  obtain ⟨n, hn, hnl⟩ := FrL.rem_lit m2 d0 (by omega)
  obtain ⟨q, hq, hql⟩ := FrL.rem_lit m3 d1 (by omega)
  have e0 : (l0 : Int) + 1 = (d0 : Int) := by omega
  have e1 : (l1 : Int) + 1 = (d1 : Int) := by omega
  have b0 : ¬ (d0 : Int) = 0 := by omega
  have b1 : ¬ (d1 : Int) = 0 := by omega
  have HNQ : Hid (n ≤ l0 ∧ q ≤ l1) := ⟨by omega, by omega⟩
  have HN := hid (th_new (fu := none) (k := none) O (Up.refl Nul w) rfl (fun f e => by cases e))
  clear hz0 hz1 hc0 hc1 ho0 ho1 h0 h1 D0 D1 hnl hql
  go_enter Try.func3, Try.ntmps3
  go_wp2_with fail
  refine HN.out.mono ?_
  rintro e w1 ⟨t, rfl, h1, u1⟩
  have H1 := hid h1
  clear h1 u1 HN
  go_wp2_with fail
  refine (th_put H1.out c0 (HZ0.out.nxt H1.out.up) HC.out.1 (by have := HL.out; show 0 + l0 ≤ 65536; omega) HO.out.1 rfl).mono ?_
  rintro e w2 ⟨rfl, h2, _⟩
  have H2 : Hid (TH O Nul w w2 t none none ⟨z0, 0 + l0, true⟩) := h2
  rw [hn, hq]
  clear h2 H1 hm2 hm3 hn hq e0 e1
  go_wp2_with fail
  refine (th_cut H2.out (n : Nat)).mono ?_
  rintro e w3 (⟨q1, _⟩ | ⟨_, q2, _⟩ | ⟨_, _, q3, _⟩ | ⟨_, _, _, rfl, h3, _⟩)
  · cases q1
  · exfalso
    have := HL.out
    have := HNQ.out
    dsimp only at q2
    omega
  · cases q3
  · have H3 : Hid (TH O Nul w w3 t none none ⟨z0.take n, 0, true⟩) := by rw [Int.toNat_natCast] at h3; exact h3
    clear h3 H2
    go_wp2_with fail
    refine (th_loose H3.out rfl).mono ?_
    rintro e w4 ⟨rfl, h4, _⟩
    have H4 := hid h4
    clear h4 H3
    go_wp2_with fail
    refine (th_put H4.out c1 (HZ1.out.nxt H4.out.up) HC.out.2 (by have := HL.out; show (z0.take n).length + l1 ≤ 65536; rw [List.length_take]; omega) HO.out.2 rfl).mono ?_
    rintro e w5 ⟨rfl, h5, _⟩
    have H5 : Hid (TH O Nul w w5 t none none ⟨z0.take n ++ z1, l1, true⟩) := by
      have h5 : TH O Nul w w5 t none none ⟨z0.take n ++ z1, 0 + l1, true⟩ := h5
      rw [Nat.zero_add] at h5
      exact h5
    clear h5 H4
    go_wp2_with fail
    refine (th_loose H5.out rfl).mono ?_
    rintro e w6 ⟨rfl, h6, _⟩
    have H6 := hid h6
    clear h6 H5
    go_wp2_with fail
    refine (th_crash H6.out (q : Nat) rfl).mono ?_
    rintro e w7 ⟨rfl, h7, _⟩
    have HB : Hid (TS.crash ⟨z0.take n ++ z1, l1, true⟩ (q : Nat) = ⟨z0.take n ++ z1.take q, 0, true⟩) := by
      have h1 := HL.out
      have h2 := HNQ.out
      unfold TS.crash
      dsimp only
      have e1 : (max (q : Int) 0).toNat = q := by omega
      have e2 : (z0.take n ++ z1).length - l1 + min q l1 = (z0.take n).length + q := by rw [List.length_append]; omega
      show _ = _
      rw [e1, e2, List.take_length_add_append]
    rw [HB.out] at h7
    have H7 := hid h7
    clear h7 H6 HB
    go_wp2_with fail
    refine (th_bytes H7.out rfl).mono ?_
    rintro e w8 ⟨xa, xl, xc, rfl, hs, h8, _⟩
    have HS := hid hs
    have H8 := hid h8
    clear hs h8 H7
    have v1 := fun W (u : Up Nul w8 W) => (HS.out.nxt u).conv xc
    have v2 := fun W => run_upto a0 l0 c0 n (by have := HNQ.out; have := HC.out; omega) W
    have v3 := fun W (u : Up Nul w8 W) => ((HZ0.out.nxt (H8.out.up.trans u)).upto n c0 HNQ.out.1 HC.out.1).conv c0
    have v4 := fun W => run_upto a1 l1 c1 q (by have := HNQ.out; have := HC.out; omega) W
    have v5 := fun W (u : Up Nul w8 W) => ((HZ1.out.nxt (H8.out.up.trans u)).upto q c1 HNQ.out.2 HC.out.2).conv c1
    have v6 := strOf_append (z0.take n) (z1.take q)
    have v7 : ((strOf (z0.take n ++ z1.take q)).toList == (strOf (z0.take n ++ z1.take q)).toList) = true := by simp
    have HV := hid v1
    have HV2 := hid v2
    have HV3 := hid v3
    have HV4 := hid v4
    have HV5 := hid v5
    have s5 : ¬ 9223372036854775807 < (strOf (z0.take n)).size + (strOf (z1.take q)).size := by rw [strOf_size, strOf_size, List.length_take, List.length_take]; have := HL.out; omega
    have U8 : Hid (Up Nul w8 w8.drew) := (Up.refl _ _).drew
    clear v1 v2 v3 v4 v5
    go_upto_region 13 with fail
    have v1 := HV.out w8.drew U8.out
    have v2 := HV2.out w8.drew
    have v3 := HV3.out w8.drew U8.out
    have v4 := HV4.out w8.drew
    have v5 := HV5.out w8.drew U8.out
    go_still_tail 39, (by kernel_rfl)
    change wpList _ _ _ _ _ w8.drew
    clear v1 v2 v3 v4 v5 v6 v7
    have UF : Hid (Up Nul w w8.drew) := H8.out.up.trans U8.out
    generalize w8.drew = w9 at UF ⊢
    go_wp2_with fail
    refine (tawake_any O _).mono ?_
    rintro e w10 ⟨rfl, k10⟩
    have H10 := hid (UF.out.trans k10)
    clear k10
    go_wp2
    go_ret
    exact ⟨rfl, H10.out.below (Nat.le_refl _) fun _ _ h => h⟩
theorem came_off {w : World} {a : Option Addr} {l c : Nat} {z : List Int} (P : Nat → Prop) (h : CameIn w a l c z) : Off P w a l := by
  obtain ⟨z', h'⟩ := SlN.of h
  rcases h'.row with e | ⟨b, o, e, hb, _⟩
  · exact .inl e
  · exact .inr fun x hx => by rw [e] at hx; cases hx; exact .inr hb
theorem tcuts_walk (O : TapeOps) (a0 : Option Addr) (l0 c0 : Nat) (z0 : List Int) (a1 : Option Addr) (l1 c1 : Nat) (z1 : List Int) (a2 a3 : Int) (w : World) (w0 : CameIn w a0 l0 c0 z0) (w1 : CameIn w a1 l1 c1 z1) :
    Calls Try.prog 3 #[.slice a0 l0 c0, .slice a1 l1 c1, .int .i64 a2, .int .i64 a3] w fun e w' => e = .returned (.bool true) ∧ Below w.heap.size w w' := by
  by_cases h : 500 < l0 ∨ 500 < l1
  · exact tcuts_long O a0 l0 c0 a1 l1 c1 a2 a3 w h
  · obtain ⟨y0, h0⟩ := SlN.of w0
    obtain ⟨y1, h1⟩ := SlN.of w1
    exact tcuts_short O a0 l0 c0 y0 a1 l1 c1 y1 a2 a3 w (by omega) (by omega) (came_cap w0) (came_cap w1) h0 h1 (came_off Nul w0) (came_off Nul w1)
end Go.Proofs.Ytgncdikikcifpaa
