/- The law ConvTwo, walked. -/
import Derived.Test.YtmaffnadmfphpaaGreatConvStripes
import Derived.WalkSmall
namespace Go.Proofs.YtmaffnadmfphpaaGreat
open Go.RowKit
set_option linter.unusedVariables false

theorem stp_full (L : Nat) (z : List Nat) (t : Nat) : stp L z t = full 4 L (narZ t) fun s => dat L z (4 * t + s) := rfl
theorem ris_small {a n : Nat} (h : a + n ≤ 256) : ∀ i, (ris a n).getD i 0 < 256 := small_getD fun x hx => by
  obtain ⟨i, hi, rfl⟩ := List.mem_iff_getElem.1 hx
  rw [ris_length] at hi
  have := ris_at (a := a) hi
  rw [List.getD_eq_getElem?_getD, List.getElem?_eq_getElem (by rw [ris_length]; exact hi)] at this
  have e : (ris a n)[i]'(by rw [ris_length]; exact hi) = a + i := this
  rw [e]
  omega
theorem Tl_outS (x : Nat) (R : Nat → List Nat) (n : Nat) : (Tl (outS x.testBit R) n).length = ((List.range n).filter fun t => !x.testBit t).length := by
  unfold Tl
  congr 1
  refine List.filter_congr fun t _ => ?_
  unfold outS
  cases x.testBit t <;> rfl
theorem two_out : ∀ i, i < 6 → ∀ k, k < 6 → 4 ≤ ((List.range 6).filter fun t => !(2 ^ i ||| 2 ^ k : Nat).testBit t).length := by decide
theorem three_out : ∀ i, i < 6 → ((List.range 6).filter fun t => !(2 ^ i ||| 2 ^ ((i + 1) % 6) ||| 2 ^ ((i + 2) % 6) : Nat).testBit t).length < 4 := by decide
theorem two_lt : ∀ i, i < 6 → ∀ k, k < 6 → (2 ^ i ||| 2 ^ k : Nat) < 64 := by decide
theorem three_lt : ∀ i, i < 6 → (2 ^ i ||| 2 ^ ((i + 1) % 6) ||| 2 ^ ((i + 2) % 6) : Nat) < 64 := by decide
/-- A bit of a u64. -/
theorem bit_facts {i : Nat} (h : i < 6) : ∃ p : Nat, p = 2 ^ i ∧ (2 : Int) ^ i = (p : Int) ∧ (p : Int) % 18446744073709551616 = (p : Int) ∧ IntKind.u64.wrap (p : Int) = (p : Int) ∧ p < 64 := by
  have h6 : 2 ^ i < 2 ^ 6 := Nat.pow_lt_pow_right (by omega) h
  have e : (2 : Int) ^ i = ((2 ^ i : Nat) : Int) := by simp
  generalize 2 ^ i = p at h6 e
  refine ⟨p, rfl, e, by omega, ?_, h6⟩
  simp only [IntKind.wrap, IntKind.bits, IntKind.signed]
  simp
  omega
theorem or_nat {x y : Nat} (hx : x < 64) (hy : y < 64) : bits .or .u64 (x : Int) (y : Int) = ((x ||| y : Nat) : Int) := by
  have h1 : (BitVec.ofInt 64 (x : Int)).toNat = x := by simp; omega
  have h2 : (BitVec.ofInt 64 (y : Int)).toNat = y := by simp; omega
  have h3 : x ||| y < 2 ^ 6 := Nat.or_lt_two_pow (n := 6) hx hy
  show IntKind.u64.wrap ((BitVec.ofInt 64 (x : Int) ||| BitVec.ofInt 64 (y : Int)).toNat : Nat) = _
  rw [BitVec.toNat_or, h1, h2]
  simp only [IntKind.wrap, IntKind.bits, IntKind.signed]
  simp
  omega
/-- A stripe as it is. -/
theorem stp_parity (L : Nat) (z : List Nat) (t j : Nat) : acrZ 4 L (narZ t) (stp L z t) j = stp L z t (4 + j) := by
  rw [stp_high]
  exact acrZ_congr fun s hs => stp_low hs
theorem two_long (a1 a2 a3 : Int) (a : Option Addr) (n cap : Nat) (w : World) (h : 400 < n) :
    Calls Tryz.prog 5 #[.slice a n cap, .int .i64 a1, .int .i64 a2, .int .i64 a3] w fun e w' => e = .returned (.bool true) ∧ Below w.heap.size w w' := by
  go_enter Tryz.func5, Tryz.ntmps5
  go_wp2_with ((go_at_call 7; (with_reducible refine (cawakeL (LS.start w)).mono ?_); rintro e w1 ⟨rfl, k1⟩; have K := hid ((LS.start w).nxt k1); clear k1))
  go_ret
  exact ⟨rfl, K.out.below⟩
set_option maxRecDepth 100000 in
set_option maxHeartbeats 6400000 in
theorem two_short (a1 a2 a3 : Int) (a : Option Addr) (n cap : Nat) (z : List Nat) (w : World) (hn : n ≤ 400) (hz : SlN w a n z) :
    Calls Tryz.prog 5 #[.slice a n cap, .int .i64 a1, .int .i64 a2, .int .i64 a3] w fun e w' => e = .returned (.bool true) ∧ Below w.heap.size w w' := by
  have HZ := hid hz
  have HSD : Hid (∀ i u, (dat 16 z i).getD u 0 < 256) := dat_small fun i => hz.small i
  clear hz
  obtain ⟨y, hy, _⟩ := i64_and255 a1
  obtain ⟨yi, hyi, _⟩ := i64_and255 a2
  obtain ⟨yk, hyk, _⟩ := i64_and255 a3
  have et : (y : Int).tmod 3 = ((y % 3 : Nat) : Int) := by rw [Int.tmod_eq_emod_of_nonneg (by omega)]; simp
  have em : (y : Int) % 3 = ((y % 3 : Nat) : Int) := by simp
  have ei : (yi : Int).tmod 6 = ((yi % 6 : Nat) : Int) := by rw [Int.tmod_eq_emod_of_nonneg (by omega)]; simp
  have ei2 : (yi : Int) % 6 = ((yi % 6 : Nat) : Int) := by simp
  have ek : (yk : Int).tmod 6 = ((yk % 6 : Nat) : Int) := by rw [Int.tmod_eq_emod_of_nonneg (by omega)]; simp
  have ek2 : (yk : Int) % 6 = ((yk % 6 : Nat) : Int) := by simp
  have ht3 : y % 3 < 3 := Nat.mod_lt _ (by omega)
  have hi6 : yi % 6 < 6 := Nat.mod_lt _ (by omega)
  have hk6 : yk % 6 < 6 := Nat.mod_lt _ (by omega)
  generalize y % 3 = t at et em ht3
  generalize yi % 6 = i at ei ei2 hi6
  generalize yk % 6 = k at ek ek2 hk6
  have HI := hid (And.intro ht3 (And.intro hi6 hk6))
  have i1 : (0 : Int) ≤ (t : Int) := by omega
  have i2 : (t : Int) < 3 := by omega
  have i3 : (0 : Int) ≤ (i : Int) := by omega
  have i4 : (0 : Int) ≤ (k : Int) := by omega
  clear ht3 hi6 hk6
  go_enter Tryz.func5, Tryz.ntmps5
  go_wp2_with fail
  refine (stripesL (L := 16) (LS.start w) HZ.out (by omega) (by omega)).mono ?_
  rintro e w1 ⟨go, co, gs, cs, G, C, rfl, _, _, ss, _, u1⟩
  have H1 := hid (And.intro ((LS.start w).nxt ((LS.start w).nul u1)) ss)
  clear ss u1
  go_wp2_with fail
  refine (gfNewF _).mono ?_
  rintro e w2 ⟨F, rfl, k2⟩
  have H2 := hid (And.intro (H1.out.1.newF k2) (H1.out.2.newF k2))
  clear k2 H1
  go_wp2_with fail
  refine (narrowL H2.out.1 (List.mem_cons_self ..) t HI.out.1).mono ?_
  rintro e w3 ⟨c, pp, pq, sp, sq, rfl, hc, n3⟩
  have H3 := hid (And.intro (H2.out.1.nxt n3) (And.intro hc (H2.out.2.nxt n3)))
  clear hc n3 H2
  obtain ⟨g, cg, R, hg, hR⟩ : ∃ g cg R, Hid (∀ w', SS [F] w' go G C 16 z → (w'.cell? ⟨go, t, none⟩ = some (.slice (some ⟨g, 0, none⟩) 6 cg) ∧ (LL [F] w' g 0 6 fun s => some (R s)) ∧ 6 ≤ cg)) ∧ Hid (R = stp 16 z t) := ⟨G t, C t, stp 16 z t, fun w' h => ⟨h.cell t HI.out.1, h.ll t HI.out.1, h.cap t HI.out.1⟩, rfl⟩
  have HRL : Hid (∀ s, (R s).length = 16) := fun s => by rw [hR.out]; exact stp_length _ _ _ _
  have x0 : w3.drew.cell? ⟨go, t, none⟩ = some (.slice (some ⟨g, 0, none⟩) 6 cg) := (hg.out w3 H3.out.2.2).1
  have HD3 := hid (And.intro (H3.out.1.nxt H3.out.1.drew) (And.intro (H3.out.2.1.nxt H3.out.1.drew) (H3.out.2.2.nxt H3.out.1.drew)))
  obtain ⟨pi, hpi, p1, p2, p3, p4⟩ := bit_facts HI.out.2.1
  obtain ⟨pk, hpk, q1, q2, q3, q4⟩ := bit_facts HI.out.2.2
  have hor := or_nat p4 q4
  obtain ⟨x, X⟩ : ∃ x, Hid (pi ||| pk = x) := ⟨_, rfl⟩
  rw [X.out] at hor
  have HX : Hid (x < 64 ∧ 4 ≤ (Tl (outS x.testBit R) (4 + 2)).length) := by
    rw [← X.out, hpi, hpk]
    exact ⟨two_lt _ HI.out.2.1 _ HI.out.2.2, by rw [Tl_outS]; exact two_out _ HI.out.2.1 _ HI.out.2.2⟩
  clear X hpi hpk p4 q4
  go_wp2_with fail
  go_region_held3 (fun w' => w'.cell? ⟨go, t, none⟩ = some (.slice (some ⟨g, 0, none⟩) 6 cg)) (first | assumption | go_keep)
    ((first
      | (go_at_call 18; (with_reducible refine (shardsL HD3.out.1 (hg.out _ HD3.out.2.2).2.1 (fun s => by rw [HRL.out]; omega) (by omega) (by omega) (by have := HX.out.1; omega)).mono ?_); rintro e w4 ⟨h4, c4, v4, rfl, l4, _, n4⟩; have H4 := hid (And.intro (HD3.out.1.nxt n4) (And.intro (HD3.out.2.1.nxt n4) (And.intro (HD3.out.2.2.nxt n4) l4))); have x1 := (hg.out _ H4.out.2.2.1).1; clear n4 l4)))
  clear x0 p1 p2 p3 q1 q2 q3 hor HD3 H3
  -- two lost
  have HSR : Hid (∀ s, s < 4 + 2 → ∀ v, outS x.testBit R s = some v → v = full 4 16 (narZ t) (fun s => dat 16 z (4 * t + s)) s) := fun s _ v e => by
    unfold outS at e
    split at e
    · cases e
    · cases e
      rw [hR.out, stp_full]
  obtain ⟨M, hM⟩ := Tl_regular (k := 4) (r := 2) (X := ris (4 * t) 4) (Y := ris 14 2) (outS x.testBit R) (ris_length _ _) (ris_length _ _) (ris_dst (by have := HI.out.1; omega)) (ris_small (by have := HI.out.1; omega)) (ris_small (by omega)) HX.out.2
  have hdec : ∀ s, s < 4 + 2 → decZ 4 2 16 (narZ t) (outS x.testBit R) M s = R s := fun s hs => by
    rw [dec_right (D := fun s => dat 16 z (4 * t + s)) stack_small (fun i _ => dat_length _ _ _) (fun i u => HSD.out _ u) HX.out.2 HSR.out hM hs, hR.out, stp_full]
  go_wp2_with fail
  refine (decode_good [F] w w4 c F 4 2 pp pq sp sq _ h4 0 6 c4 16 _ M H4.out.1 H4.out.2.1 H4.out.2.2.2 rfl (fine_outS HRL.out) (by omega) HX.out.2 hM).mono ?_
  rintro e w5 ⟨gl, cl, bl, rfl, le, lf⟩
  have n5 := H4.out.1.one (List.mem_cons_self ..) le.up lf
  have H5 := hid (And.intro (H4.out.1.nxt n5) (And.intro (H4.out.2.1.nxt n5) (And.intro (H4.out.2.2.1.nxt n5) ((le.congr hdec).ll H4.out.1))))
  clear le lf n5 H4 hdec hM M HSR x1
  have x2 := (hg.out _ H5.out.2.2.1).1
  go_wp2_with fail
  refine (check_good [F] w w5 c F 4 2 pp pq sp sq _ g 0 6 cg 16 R H5.out.1 H5.out.2.1 (hg.out _ H5.out.2.2.1).2.1 rfl (fun s _ => HRL.out s) (by omega) (hg.out _ H5.out.2.2.1).2.2).mono ?_
  rintro e w6 ⟨⟨rfl, _⟩ | ⟨rfl, s, hs, hb⟩, u6, f6⟩
  case inr => exact absurd (by rw [hR.out]; exact stp_parity _ _ _ _) hb
  have n6 := H5.out.1.one (List.mem_cons_self ..) u6 f6
  have H6 := hid (And.intro (H5.out.1.nxt n6) (And.intro (H5.out.2.1.nxt n6) (And.intro (H5.out.2.2.1.nxt n6) (H5.out.2.2.2.nxt n6))))
  clear u6 f6 n6 H5 x2
  have x0 : w6.drew.cell? ⟨go, t, none⟩ = some (.slice (some ⟨g, 0, none⟩) 6 cg) := (hg.out w6 H6.out.2.2.1).1
  have HD6 := hid (And.intro (H6.out.1.nxt H6.out.1.drew) (And.intro (H6.out.2.1.nxt H6.out.1.drew) (And.intro (H6.out.2.2.1.nxt H6.out.1.drew) (H6.out.2.2.2.nxt H6.out.1.drew))))
  obtain ⟨j, hj, j1, j2, j3⟩ : ∃ j, j = (i + 1) % 6 ∧ j < 6 ∧ ((i : Int) + 1).tmod 6 = (j : Int) ∧ ((i : Int) + 1) % 6 = (j : Int) := ⟨(i + 1) % 6, rfl, Nat.mod_lt _ (by omega), by rw [Int.tmod_eq_emod_of_nonneg (by omega)]; omega, by omega⟩
  obtain ⟨l, hl, l1, l2, l3⟩ : ∃ j, j = (i + 2) % 6 ∧ j < 6 ∧ ((i : Int) + 2).tmod 6 = (j : Int) ∧ ((i : Int) + 2) % 6 = (j : Int) := ⟨(i + 2) % 6, rfl, Nat.mod_lt _ (by omega), by rw [Int.tmod_eq_emod_of_nonneg (by omega)]; omega, by omega⟩
  have i5 : (0 : Int) ≤ (j : Int) := by omega
  have i6 : (0 : Int) ≤ (l : Int) := by omega
  have i7 : IntKind.i64.wrap ((i : Int) + 1) = (i : Int) + 1 := IntWalk.i64_in _ (by have := HI.out.2.1; omega)
  have i8 : IntKind.i64.wrap ((i : Int) + 2) = (i : Int) + 2 := IntWalk.i64_in _ (by have := HI.out.2.1; omega)
  obtain ⟨p, hp, p1, p2, p3, p4⟩ := bit_facts HI.out.2.1
  obtain ⟨q, hq, q1, q2, q3, q4⟩ := bit_facts j1
  obtain ⟨r, hr, r1, r2, r3, r4⟩ := bit_facts l1
  have hor := or_nat p4 q4
  have hpq : p ||| q < 64 := Nat.or_lt_two_pow (n := 6) p4 q4
  have hor2 := or_nat hpq r4
  obtain ⟨x', X'⟩ : ∃ x, Hid (p ||| q ||| r = x) := ⟨_, rfl⟩
  rw [X'.out] at hor2
  have HX2 : Hid (x' < 64 ∧ (Tl (outS x'.testBit R) 6).length < 4) := by
    rw [← X'.out, hp, hq, hr, hj, hl]
    exact ⟨three_lt _ HI.out.2.1, by rw [Tl_outS]; exact three_out _ HI.out.2.1⟩
  generalize p ||| q = pq' at hor hor2 hpq X'
  clear X' hp hq hr hj hl p4 q4 r4 hpq j1 l1
  go_wp2_with fail
  go_region_held3 (fun w' => w'.cell? ⟨go, t, none⟩ = some (.slice (some ⟨g, 0, none⟩) 6 cg)) (first | assumption | go_keep)
    ((first
      | (go_at_call 18; (with_reducible refine (shardsL HD6.out.1 (hg.out _ HD6.out.2.2.1).2.1 (fun s => by rw [HRL.out]; omega) (by omega) (by omega) (by have := HX2.out.1; omega)).mono ?_); rintro e w7 ⟨h7, c7, v7, rfl, l7, _, n7⟩; have H7 := hid (And.intro (HD6.out.1.nxt n7) (And.intro (HD6.out.2.1.nxt n7) (And.intro (HD6.out.2.2.1.nxt n7) (And.intro (HD6.out.2.2.2.nxt n7) l7)))); have x1 := (hg.out _ H7.out.2.2.1).1; clear n7 l7)))
  clear x0 p1 p2 p3 q1 q2 q3 r1 r2 r3 hor hor2 j2 j3 l2 l3 i5 i6 i7 i8 HD6 H6
  go_wp2_with fail
  refine (decode_lost [F] w w7 c F 4 2 pp pq sp sq _ h7 0 6 c7 16 _ H7.out.1 H7.out.2.1 H7.out.2.2.2.2 rfl (fine_outS HRL.out) (by omega) HX2.out.2).mono ?_
  rintro e w8 ⟨rfl, u8⟩
  have n8 := H7.out.1.nul u8
  have HD8 := hid (And.intro ((H7.out.1.nxt n8).nxt (H7.out.1.nxt n8).drew) (And.intro ((H7.out.2.2.1.nxt n8).nxt (H7.out.1.nxt n8).drew) ((H7.out.2.2.2.1.nxt n8).nxt (H7.out.1.nxt n8).drew)))
  clear u8 n8 H7 x1
  have x0 : w8.drew.cell? ⟨go, t, none⟩ = some (.slice (some ⟨g, 0, none⟩) 6 cg) := (hg.out _ HD8.out.2.1).1
  go_wp2_with fail
  go_region_held3 (fun w' => w'.cell? ⟨go, t, none⟩ = some (.slice (some ⟨g, 0, none⟩) 6 cg)) (first | assumption | go_keep)
    ((first
      | (go_at_call 16; (with_reducible refine (stringsL HD8.out.1 HD8.out.2.2 (by omega) (by omega)).mono ?_); rintro e wA ⟨gA, cA, rfl, stA, uA⟩; have nA := HD8.out.1.nul uA; have HA := hid (And.intro (HD8.out.1.nxt nA) (And.intro (HD8.out.2.1.nxt nA) stA)); have x1 := (hg.out _ HA.out.2.1).1; clear nA uA stA)
      | (go_at_call 16; (with_reducible refine (stringsL HA.out.1 (hg.out _ HA.out.2.1).2.1 (by omega) (by omega)).mono ?_); rintro e wB ⟨gB, cB, rfl, stB, uB⟩; have nB := HA.out.1.nul uB; have HB := hid (And.intro (HA.out.1.nxt nB) (And.intro (HA.out.2.2.up uB) (And.intro stB (HA.out.2.1.nxt nB)))); have x2 := (hg.out _ HB.out.2.2.2).1; clear nB uB stB)
      | (go_at_call 15; (with_reducible refine (same_yes _ _ _ _ _ _ _ HB.out.2.1 HB.out.2.2.1 (by omega)).mono ?_); rintro e wC ⟨rfl, uC⟩; have nC := HB.out.1.nul uC; have HC := hid (And.intro (HB.out.1.nxt nC) (HB.out.2.2.2.nxt nC)); have x3 := (hg.out _ HC.out.2).1; clear uC nC)
      | (go_at_call 7; (with_reducible refine (cawakeL HC.out.1).mono ?_); rintro e wE ⟨rfl, nE⟩; have HE := hid (HC.out.1.nxt nE); have x4 := (hg.out _ (HC.out.2.nxt nE)).1; clear nE)))
  go_wp2
  go_ret
  exact ⟨rfl, HE.out.below⟩
theorem two_walk (a0 : Option Addr) (len0 cap0 : Nat) (z0 : List Int) (a1 a2 a3 : Int) (w : World) (w0 : CameIn w a0 len0 cap0 z0) :
    Calls Tryz.prog 5 #[.slice a0 len0 cap0, .int .i64 a1, .int .i64 a2, .int .i64 a3] w fun e w' => e = .returned (.bool true) ∧ Below w.heap.size w w' := by
  by_cases h : 400 < len0
  · exact two_long a1 a2 a3 a0 len0 cap0 w h
  · obtain ⟨za, hza⟩ := SlN.of w0
    exact two_short a1 a2 a3 a0 len0 cap0 za w (by omega) hza
end Go.Proofs.YtmaffnadmfphpaaGreat
