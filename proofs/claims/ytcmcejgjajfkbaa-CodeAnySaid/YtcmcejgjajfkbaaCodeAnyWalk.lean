/- The law CodeAny, walked. -/
import Derived.Test.YtcmcejgjajfkbaaCodeLost
namespace Go.Proofs.Ytcmcejgjajfkbaa
open Go.RowKit
set_option linter.unusedVariables false

/-- A slice of ints that came in. -/
structure SlI (w : World) (b : Option Addr) (m : Nat) (f : Nat → Int) : Prop where
  row : m = 0 ∨ ∃ g o, b = some ⟨g, o, none⟩ ∧ g < w.heap.size ∧ RowI w g o m f
  le : m ≤ 9223372036854775807
theorem SlI.nxt {w w' : World} {b : Option Addr} {m : Nat} {f : Nat → Int} (h : SlI w b m f) (u : Up Nul w w') : SlI w' b m f := by
  refine ⟨?_, h.le⟩
  rcases h.row with e | ⟨g, o, e, l, r⟩
  · exact .inl e
  · exact .inr ⟨g, o, e, Nat.lt_of_lt_of_le l u.size, r.up u l id⟩
set_option maxRecDepth 100000 in
theorem any_long (a0 a1 a2 a4 : Int) (a b : Option Addr) (n cap m capb : Nat) (w : World) (h : 1000 < n) :
    Calls Try.prog 6 #[.int .i64 a0, .int .i64 a1, .int .i64 a2, .slice a n cap, .int .i64 a4, .slice b m capb] w fun e w' => e = .returned (.bool true) ∧ Below w.heap.size w w' := by
  go_enter Try.func6, Try.ntmps6
  go_wp2_with ((go_at_call 8; (with_reducible refine (awakeL (LS.start w)).mono ?_); rintro e w1 ⟨rfl, k1⟩; have K := hid ((LS.start w).nxt k1); clear k1))
  go_ret
  exact ⟨rfl, K.out.below⟩

set_option maxRecDepth 100000 in
set_option maxHeartbeats 6400000 in
theorem any_short (a0 a1 a2 a4 : Int) (a b : Option Addr) (n cap m capb : Nat) (za : List Nat) (f : Nat → Int) (w : World) (hn : n ≤ 1000) (hza : SlN w a n za) (hf : SlI w b m f) :
    Calls Try.prog 6 #[.int .i64 a0, .int .i64 a1, .int .i64 a2, .slice a n cap, .int .i64 a4, .slice b m capb] w fun e w' => e = .returned (.bool true) ∧ Below w.heap.size w w' := by
  have hnot : ∀ (x : Bool) (w : World), (Op.unary .not (.bool x)).run Try.prog w = .ok (.bool (!x)) w := fun _ _ => rfl
  have HZ := hid (And.intro hza hf)
  clear hza hf
  obtain ⟨y, k, hk1, hk2, hk3, k1, k14, hy⟩ := md_k a0
  obtain ⟨r, hr, r1, r4⟩ := i64_and3 a1
  have HK := hid (And.intro hk1 (And.intro hk2 (And.intro hk3 (And.intro hy hr))))
  clear hk1 hk2 hk3 hy hr
  go_enter Try.func6, Try.ntmps6
  go_wp2_with fail
  refine (madeL (LS.start w) HK.out.1 HK.out.2.1 HK.out.2.2.1 k1 k14 HK.out.2.2.2.1 HK.out.2.2.2.2 r1 r4).mono ?_
  rintro e w1 ⟨gx, cx, gy, cy, rfl, rx, ry, n1⟩
  have hl := (LS.start w).nxt n1
  have H1 := hid (And.intro (hl.nxt (hl.alloc (.cells #[.slice (some ⟨gx, 0, none⟩) k cx, .slice (some ⟨gy, 0, none⟩) r cy] 25))) (LC.new (k := k) (r := r) (cx := cx) (cy := cy) hl rx ry 25))
  clear hl rx ry n1
  go_wp2_with fail
  generalize (w1.alloc (.cells #[.slice (some ⟨gx, 0, none⟩) k cx, .slice (some ⟨gy, 0, none⟩) r cy] 25)) = w2 at *
  generalize w1.heap.size = V at *
  have HD : Hid (LS w [] w2.drew ∧ LC [] w2.drew V gx cx gy cy k r (mdX a2 k) (mdY a2 k r)) := ⟨H1.out.1.nxt H1.out.1.drew, H1.out.2.nxt H1.out.1.drew⟩
  have s1 : w2.cell? ⟨V, 0, none⟩ = some (.slice (some ⟨gx, 0, none⟩) k cx) := H1.out.2.c0
  have s2 : w2.cell? ⟨V, 1, none⟩ = some (.slice (some ⟨gy, 0, none⟩) r cy) := H1.out.2.c1
  go_region_held3 (fun w' => w'.cell? ⟨V, 0, none⟩ = some (.slice (some ⟨gx, 0, none⟩) k cx) ∧ w'.cell? ⟨V, 1, none⟩ = some (.slice (some ⟨gy, 0, none⟩) r cy)) (first | exact ⟨by assumption, by assumption⟩ | go_keep)
    ((first
      | (go_at_call 11; (with_reducible refine (gfNewF _).mono ?_); rintro e w3 ⟨F, rfl, n3⟩; have H3 := hid (And.intro (HD.out.1.newF n3) (HD.out.2.newF n3)); have t1 := H3.out.2.c0; have t2 := H3.out.2.c1; clear n3)
      | (go_at_call 10; (with_reducible refine (codeL H3.out.1 (List.mem_cons_self ..) H3.out.2 k1 k14 r1 r4).mono ?_); rintro e w4 ⟨c, pp, pq, sp, sq, rfl, cs, n4⟩; have H4 := hid cs; have t3 := H4.out.lc.c0; have t4 := H4.out.lc.c1; clear cs n4)))
  clear s1 s2 t1 t2 t3 t4 H1 H3 HD
  have x0 := H4.out.lc.c0
  have x1 := H4.out.lc.c1
  have HFM : Hid (F ∈ [F]) := List.mem_cons_self ..
  obtain ⟨L, hL, L1, L32⟩ := i64_and31 a4
  go_wp2_with fail
  refine (dataL (L := L) H4.out.ls HFM.out HZ.out.1 k1 k14 (by omega)).mono ?_
  rintro e w5 ⟨gd, cd, bd, rfl, de, _, du⟩
  have H5 := hid (And.intro (H4.out.nxt (H4.out.ls.nul du)) de)
  have L4 := hid H4.out.ls
  have HF4 := hid (H4.out.ls.fld F HFM.out).lt
  have HSD : Hid (∀ i u, (dat L za i).getD u 0 < 256) := dat_small fun i => HZ.out.1.small i
  clear de du x0 x1 hL
  obtain ⟨D, HDD⟩ : ∃ D, Hid (D = dat L za) := ⟨_, rfl⟩
  rw [← HDD.out] at H5 HSD
  have HLD : Hid (∀ i, (D i).length = L) := fun i => by rw [HDD.out]; exact dat_length _ _ _
  go_wp2_with fail
  refine (encL (L := L) H5.out.1.ls H5.out.1.cd (H5.out.2.ll L4.out) (fun i _ => HLD.out i) (by omega)).mono ?_
  rintro e w6 ⟨gp, bp, rfl, pe, pn, pu⟩
  have H6 := hid (And.intro (H5.out.1.nxt pn) (And.intro (H5.out.2.fld HF4.out pu) pe))
  have HLT : Hid (∀ i, i < k → bd i < w5.heap.size) := fun i hi => H5.out.2.lt hi
  have U45 := hid H5.out.2.up
  have x1 := H6.out.1.lc.c1
  clear pe pn pu
  have HA1 : Hid (OwnV 22 w6.heap.size (w6.alloc (.cells #[] 22)) (.slice (some ⟨w6.heap.size, 0, none⟩) 0 0) []) := World.ownsRow_made w6 #[] 0 (Nat.le_refl _) (by unfold maxLen; omega) rfl
  have UA := hid ((Up.refl Nul w6).alloc (.cells #[] 22))
  have HLk : Hid (([] ++ lnV k L bd : List Value).length + r ≤ 1000000) := by show _ ≤ _; rw [List.length_append, lnV_length]; simp; omega
  go_wp2_with (first
    | (at_builtin; refine wpList_append_vals Try.underlying33 info_sl rfl (by omega) rfl (.tmp 82) (.tmp 83) rfl w6.heap.size _ [] rfl HA1.out ⟨gd, 0, none⟩ k cd (lnV k L bd) rfl (fun j u hj => (UA.out.cell (by rw [add_block]; exact H6.out.2.1.gll) id).trans (H6.out.2.1.vals j u hj)) (lnV_one _ _ _) (lnV_length _ _ _) (by simp; omega) UA.out.size ?_; intro v7 w7 G1 G2; have U7 := hid (UA.out.grown G2.out fun q hq => HA1.out.base q hq))
    | (at_builtin; refine wpList_append_vals Try.underlying33 info_sl rfl (by omega) rfl (.tmp 84) (.tmp 85) rfl w6.heap.size _ ([] ++ lnV k L bd) rfl G1.out ⟨gp, 0, none⟩ r r (lnV r L bp) rfl (fun j u hj => (U7.out.cell (by rw [add_block]; exact H6.out.2.2.gll) id).trans (H6.out.2.2.vals j u hj)) (lnV_one _ _ _) (lnV_length _ _ _) HLk.out U7.out.size ?_; intro v8 w8 G3 G4; have U8 := hid (U7.out.grown G4.out fun q hq => G1.out.base q hq); obtain ⟨gA, cA, rfl, ael, acap⟩ := whole_made2 (w4 := w8) H6.out.2.1 H6.out.2.2 HLT.out U45.out G3.out (Nat.le_refl _) U8.out k1; have HEA := hid (And.intro ael acap); clear ael acap))
  obtain ⟨R, HR⟩ : ∃ R, Hid (R = full k L (coefZ k r (mdX a2 k) (mdY a2 k r)) D) := ⟨_, rfl⟩
  have HRL : Hid (∀ t, (R t).length = L) := fun t => by rw [HR.out]; exact full_len fun i _ => HLD.out i
  have HRS : Hid (∀ t u, (R t).getD u 0 < 256) := fun t u => by
    rw [HR.out]
    rcases Nat.lt_or_ge t k with h | h
    · rw [full_low h]; exact HSD.out t u
    · rw [full_high h]; exact acrZ_small _ _ _ _ _ u
  have hel : Elim w4 F gA (k + r) L (two k bd bp) R w8 := by rw [HR.out]; exact HEA.out.1
  have H8 : Hid (CS w [F] w8 V gx cx gy cy c F k r pp pq sp sq a2 ∧ LL [F] w8 gA 0 (k + r) fun t => some (R t)) := ⟨H6.out.1.nxt (H6.out.1.ls.nul U8.out), hel.ll L4.out⟩
  have HCA := hid HEA.out.2
  clear hel HEA H5 H6 HLT U45 HA1 UA HLk G1 G2 G3 G4 U7 U8 x1
  have hkr18 : k + r ≤ 18 := by omega
  have hkr1 : 1 ≤ k + r := by omega
  go_loopw [20, 21, 22] (fun v l i wr => ∃ x q t : Nat, v = .int .u64 x ∧ l = .int .i64 q ∧ i = .int .i64 t ∧ t ≤ 40 ∧ q ≤ r ∧ x < 18446744073709551616 ∧ (Tl (outS x.testBit R) (k + r)).length + q = k + r ∧ CS w [F] wr V gx cx gy cy c F k r pp pq sp sq a2 ∧ LL [F] wr gA 0 (k + r) fun t => some (R t)) (fun _ _ i _ => 40 - (intOf i).toNat)
  case atStart => exact ⟨0, 0, 0, rfl, rfl, rfl, by omega, by omega, by omega, by
    rw [outS_zero, Tl_all fun _ _ => rfl, List.length_range]; omega, H8.out⟩
  case round =>
    clear H8
    obtain ⟨x, q, t, rfl, rfl, rfl, ht, hq, hx, hT, hcs, hll⟩ := hrel
    have HT := hid (And.intro hx hT)
    have H9 := hid (And.intro hcs hll)
    clear hx hT hcs hll
    have x1 := H9.out.1.lc.c1
    by_cases hlt : t < 40
    · have hq2 : (q : Int) ≤ (r : Int) := by omega
      go_upto_if 102 with fail
      go_cut [23] (fun s23 wx => ∃ u : Nat, s23 = .int .i64 u ∧ u ≤ 100 ∧ wx = wr)
      case first =>
        as_aux_lemma =>
        by_cases hlm : t < m
        · have HF := HZ.out.2.nxt H9.out.1.ls.up
          obtain ⟨gi, oi, rfl, hgi, hri⟩ : ∃ g o, b = some ⟨g, o, none⟩ ∧ g < wr.heap.size ∧ RowI wr g o m f := by
            rcases HF.row with e | h
            · omega
            · exact h
          have c1 := hri t hlm
          obtain ⟨yy, hy, _⟩ := i64_and255 (f t)
          have hm' := HF.le
          obtain ⟨e1, e2, e3⟩ : (yy : Int).tmod ((k : Int) + (r : Int)) = ((yy % (k + r) : Nat) : Int) ∧ (yy : Int) % ((k : Int) + (r : Int)) = ((yy % (k + r) : Nat) : Int) ∧ ((k : Int) + (r : Int) == 0) = false := by
            have ec : (k : Int) + (r : Int) = ((k + r : Nat) : Int) := by simp
            refine ⟨?_, ?_, ?_⟩
            · rw [ec, Int.tmod_eq_emod_of_nonneg (by omega)]; simp
            · rw [ec]; simp
            · simp; omega
          have hz1 : yy % (k + r) ≤ 100 := by have := Nat.mod_lt yy (show 0 < k + r by omega); omega
          obtain ⟨zz, ZZ⟩ : ∃ z, Hid (yy % (k + r) = z) := ⟨_, rfl⟩
          rw [ZZ.out] at e1 e2 hz1
          have i1 : (0 : Int) ≤ (t : Int) := by omega
          have i2 : (t : Int) < (m : Int) := by omega
          generalize f t = ft at c1 hy
          clear HF hri
          go_wp2_with fail
          go_meet
          case rel => exact ⟨zz, rfl, hz1, rfl⟩
        · have i2 : ¬ (t : Int) < (m : Int) := by omega
          go_wp2_with fail
          go_meet
          case rel => exact ⟨t, rfl, by omega, rfl⟩
      case rest =>
        as_aux_lemma =>
        obtain ⟨u, rfl, hu100, hwx⟩ := hcut
        subst hwx
        obtain ⟨i0, e1, e2, e3, hi0⟩ : ∃ i0 : Nat, (u : Int).tmod ((k : Int) + (r : Int)) = (i0 : Int) ∧ (u : Int) % ((k : Int) + (r : Int)) = (i0 : Int) ∧ ((k : Int) + (r : Int) == 0) = false ∧ i0 < k + r := by
          have ec : (k : Int) + (r : Int) = ((k + r : Nat) : Int) := by simp
          refine ⟨u % (k + r), ?_, ?_, ?_, Nat.mod_lt _ (by omega)⟩
          · rw [ec, Int.tmod_eq_emod_of_nonneg (by omega)]; simp
          · rw [ec]; simp
          · simp; omega
        cases hb : x.testBit i0 with
        | true =>
          have hb' : (bits .and .u64 ((x : Int) / 2 ^ i0) 1 == 1) = true := by rw [bit_at HT.out.1, hb]
          go_wp2_with fail
          go_roundw
          case rel => exact ⟨x, q, t + 1, rfl, rfl, by go_num, by omega, hq, HT.out.1, HT.out.2, H9.out⟩
          case measure => simp [intOf]; omega
        | false =>
          have hb' : (bits .and .u64 ((x : Int) / 2 ^ i0) 1 == 1) = false := by rw [bit_at HT.out.1, hb]
          have hS0 : ((outS x.testBit R) i0).isSome = true := by unfold outS; rw [if_neg (by rw [hb]; exact Bool.false_ne_true)]; rfl
          have hTL := Tl_less hS0 (k + r)
          rw [if_pos hi0] at hTL
          have hor := or_at HT.out.1 (show i0 < 60 by omega)
          have hxl := or_lt HT.out.1 (show i0 < 60 by omega)
          have hSS := outS_or (x := x) (q := i0) (R := R)
          have hp60 : 2 ^ i0 < 2 ^ 60 := Nat.pow_lt_pow_right (by omega) (by omega)
          have hs0 : (2 : Int) ^ i0 = ((2 ^ i0 : Nat) : Int) := by simp
          rw [← hSS] at hTL
          obtain ⟨x', X'⟩ : ∃ y : Nat, Hid (x ||| 2 ^ i0 = y) := ⟨_, rfl⟩
          rw [X'.out] at hor hxl hSS hTL
          obtain ⟨p, P⟩ : ∃ y : Nat, Hid (2 ^ i0 = y) := ⟨_, rfl⟩
          rw [P.out] at hor hp60 hs0
          have hs2 : (p : Int) % 18446744073709551616 = (p : Int) := by omega
          have hs3 : IntKind.u64.wrap (p : Int) = (p : Int) := by simp [IntKind.wrap, IntKind.bits, IntKind.signed]; omega
          have HX := hid (And.intro hxl (And.intro hSS (And.intro hTL (And.intro hor (And.intro hs0 (And.intro hs2 hs3))))))
          have HNN : Hid (outS x'.testBit R i0 = none) := by show _ = _; rw [hSS]; unfold out1; rw [if_pos rfl]
          clear hs0 hs2 hs3 hp60 hor hTL hSS hxl hS0
          by_cases hqr : q = r
          · have hq3 : (r : Int) < (q : Int) + 1 := by omega
            go_upto_region 25 with fail
            have hs0 := HX.out.2.2.2.2.1
            have hs2 := HX.out.2.2.2.2.2.1
            have hs3 := HX.out.2.2.2.2.2.2
            have hor := HX.out.2.2.2.1
            clear hb'
            go_wp2_with fail
            refine (shardsL H9.out.1.ls H9.out.2 (fun i => by rw [HRL.out]; omega) hkr1 (by omega) HX.out.1).mono ?_
            rintro e w10 ⟨h10, c10, v10, rfl, l10, _, n10⟩
            have H10 := hid (And.intro (H9.out.1.nxt n10) l10)
            clear l10 n10
            go_wp2_with fail
            refine (decode_lost [F] w w10 c F k r pp pq sp sq _ h10 0 (k + r) c10 L _ H10.out.1.ls H10.out.1.cd H10.out.2 rfl (fine_outS HRL.out) (by omega) (by have := HT.out.2; have := HX.out.2.2.1; omega)).mono ?_
            rintro e w11 ⟨rfl, u11⟩
            have H11 := hid (H10.out.1.nxt (H10.out.1.ls.nul u11))
            clear u11
            go_wp2_with ((go_at_call 8; (with_reducible refine (awakeL H11.out.ls).mono ?_); rintro e w12 ⟨rfl, k12⟩; have K := hid (H11.out.ls.nxt k12); clear k12))
            go_ret
            exact ⟨rfl, K.out.below⟩
          · have hq3 : ¬ (r : Int) < (q : Int) + 1 := by omega
            go_upto_region 28 with fail
            have hs0 := HX.out.2.2.2.2.1
            have hs2 := HX.out.2.2.2.2.2.1
            have hs3 := HX.out.2.2.2.2.2.2
            have hor := HX.out.2.2.2.1
            clear hb'
            go_wp2_with fail
            refine (shardsL H9.out.1.ls H9.out.2 (fun i => by rw [HRL.out]; omega) hkr1 (by omega) HX.out.1).mono ?_
            rintro e w10 ⟨h10, c10, v10, rfl, l10, _, n10⟩
            have H10 := hid (And.intro (H9.out.1.nxt n10) (And.intro (H9.out.2.nxt n10) l10))
            clear l10 n10 hs0 hs2 hs3 hor
            have HK2 : Hid (k ≤ (Tl (outS x'.testBit R) (k + r)).length) := by show _ ≤ _; have := HT.out.2; have := HX.out.2.2.1; omega
            have HSR : Hid (∀ t, t < k + r → ∀ z, outS x'.testBit R t = some z → z = full k L (coefZ k r (mdX a2 k) (mdY a2 k r)) D t) := fun t ht z e => by
              unfold outS at e
              split at e
              · cases e
              · cases e
                rw [HR.out]
            obtain ⟨M, hM⟩ := md_regular (at_ := a2) (outS x'.testBit R) hkr18 HK2.out
            have hdec : ∀ t, t < k + r → decZ k r L (coefZ k r (mdX a2 k) (mdY a2 k r)) (outS x'.testBit R) M t = R t := fun t ht => by
              rw [dec_right (D := D) stack_small (fun i _ => HLD.out i) HSD.out HK2.out HSR.out hM ht, HR.out]
            go_wp2_with fail
            refine (decode_good [F] w w10 c F k r pp pq sp sq _ h10 0 (k + r) c10 L _ M H10.out.1.ls H10.out.1.cd H10.out.2.2 rfl (fine_outS HRL.out) (by omega) HK2.out hM).mono ?_
            rintro e w11 ⟨gl, cl, bl, rfl, le, lf⟩
            have n11 := H10.out.1.ls.one HFM.out le.up lf
            have H11 := hid (And.intro (H10.out.1.nxt n11) (And.intro (H10.out.2.1.nxt n11) (And.intro (H10.out.2.2.nxt n11) ((le.congr hdec).ll H10.out.1.ls))))
            have HDE := hid (And.intro hM hdec)
            clear n11 le lf H10 hM hdec
            have hkr100 : k + r ≤ 100 := by omega
            go_wp2_with (first
              | (go_at_call 18; (with_reducible refine (stringsL H11.out.1.ls H11.out.2.2.2 hkr1 hkr100).mono ?_); rintro e w12 ⟨g12, c12, rfl, st12, u12⟩; have H12 := hid (And.intro u12 st12); clear u12 st12)
              | (go_at_call 18; (with_reducible refine (stringsL (H11.out.1.ls.nxt (H11.out.1.ls.nul H12.out.1)) (H11.out.2.1.nxt (H11.out.1.ls.nul H12.out.1)) hkr1 hkr100).mono ?_); rintro e w13 ⟨g13, c13, rfl, st13, u13⟩; have H13 := hid (And.intro (H12.out.1.trans u13) (And.intro (H12.out.2.up u13) st13)); clear u13 st13)
              | (go_at_call 17; (with_reducible refine (same_yes _ _ _ _ _ _ _ H13.out.2.1 H13.out.2.2 hkr100).mono ?_); rintro e w14 ⟨rfl, u14⟩; have H14 := hid (H11.out.1.ls.nul (H13.out.1.trans u14)); clear u14)
              | fail)
            have hoo : out1 (outS x'.testBit R) i0 = outS x'.testBit R := by
              funext s
              unfold out1
              by_cases e : s = i0
              · rw [if_pos e, e]; exact HNN.out.symm
              · rw [if_neg e]
            refine (reb_any [F] w _ c F k r pp pq sp sq _ h10 0 (k + r) c10 L i0 (outS x'.testBit R) (H11.out.1.ls.nxt H14.out) (H11.out.1.cd.nxt H14.out) (H11.out.2.2.1.nxt H14.out) rfl (fine_outS HRL.out) (by omega) hi0 (fun hS => md_regular _ hkr18 hS)).mono ?_
            rintro e w15 ⟨⟨hlost, rfl⟩ | ⟨M2, bS, hM2, rfl, hbS, _, hbw⟩, u15, f15⟩
            · rw [hoo] at hlost
              exact absurd hlost (by have := HK2.out; omega)
            have hdec2 : decZ k r L (coefZ k r (mdX a2 k) (mdY a2 k r)) (out1 (outS x'.testBit R) i0) M2 i0 = R i0 := by
              rw [hoo] at hM2 ⊢
              rw [dec_right (D := D) stack_small (fun i _ => HLD.out i) HSD.out HK2.out HSR.out hM2 hi0, HR.out]
            rw [hdec2] at hbS
            have n15 := H14.out.trans ((H11.out.1.ls.nxt H14.out).one HFM.out u15 f15)
            have nn := n15.trans (H11.out.1.ls.nxt n15).drew
            have HD : Hid (CS w [F] w15.drew V gx cx gy cy c F k r pp pq sp sq a2 ∧ (LL [F] w15.drew gA 0 (k + r) fun t => some (R t))) := ⟨H11.out.1.nxt nn, H11.out.2.1.nxt nn⟩
            obtain ⟨bi, oi, ci, xi, ri⟩ := HD.out.2.at hi0 rfl
            rw [HRL.out, Nat.zero_add] at xi
            have z1 := conv_row (cap := L) (blk_row (show Blk w15.drew bS (R i0) from hbS.drew)) (HRL.out i0)
            have z2 := conv_row (cap := ci) ri.row (HRL.out i0)
            have hqq : ((strOf (R i0)).toList == (strOf (R i0)).toList) = true := by simp
            obtain ⟨sR, SR⟩ : ∃ x, Hid (strOf (R i0) = x) := ⟨_, rfl⟩
            rw [SR.out] at z1 z2 hqq
            have j1 : (0 : Int) ≤ (i0 : Int) := by omega
            have j2 : (i0 : Int) < (k : Int) + (r : Int) := by omega
            have HX2 : Hid ((Tl (outS x'.testBit R) (k + r)).length + (q + 1) = k + r ∧ q + 1 ≤ r) := by have := HT.out.2; have := HX.out.2.2.1; exact ⟨by omega, by omega⟩
            clear nn n15 hbS hdec2 u15 f15 hbw hM2 hoo ri H11 H12 H13 H14 HDE e1 e2 e3 hq3 hqr hlt hq2
            go_wp2_with fail
            go_region_held3 (fun w' => w'.cell? ⟨gA, i0, none⟩ = some (.slice (some ⟨bi, oi, none⟩) L ci) ∧ (convert 22 9 (.slice (some ⟨bS, 0, none⟩) L L)).run Try.prog w' = .ok (.string sR) w' ∧ (convert 22 9 (.slice (some ⟨bi, oi, none⟩) L ci)).run Try.prog w' = .ok (.string sR) w')
              (first | exact ⟨by assumption, by assumption, by assumption⟩ | go_keep) (fail)
            go_wp2
            go_roundw
            case rel => exact ⟨x', q + 1, t + 1, rfl, by go_num, by go_num, by omega, HX2.out.2, HX.out.1, HX2.out.1, HD.out⟩
            case measure => simp [intOf]; omega
    · obtain rfl : 40 = t := by omega
      go_wp2_with ((go_at_call 8; (with_reducible refine (awakeL H9.out.1.ls).mono ?_); rintro e w9 ⟨rfl, k9⟩; have K := hid (H9.out.1.ls.nxt k9); clear k9))
      go_ret
      exact ⟨rfl, K.out.below⟩
/-- What the row's step knows of a slice of ints. -/
abbrev CameI (w : World) (a : Option Addr) (len cap : Nat) (zs : List Int) : Prop :=
  (a = none ∧ len = 0 ∧ cap = 0 ∧ zs = []) ∨
  ∃ x, a = some x ∧ len ≤ cap ∧ cap ≤ maxLen ∧ zs.length = cap ∧ (∀ i, i < zs.length → w.cell? (x.add i) = some (.int .i64 (zs.getD i 0))) ∧ ∀ n ∈ zs, (Lit.int .i64 n).wf = true
theorem SlI.of {w : World} {a : Option Addr} {len cap : Nat} {zs : List Int} (h : CameI w a len cap zs) : ∃ f, SlI w a len f := by
  rcases h with ⟨_, h, _⟩ | ⟨x, rfl, hl, hm, hz, hc, hw⟩
  · exact ⟨fun _ => 0, .inl h, by omega⟩
  · unfold maxLen at hm
    by_cases h0 : len = 0
    · exact ⟨fun _ => 0, .inl h0, by omega⟩
    · obtain ⟨b, o, spot⟩ := x
      have hc0 := hc 0 (by omega)
      have hs : spot = none := by simpa [Addr.add] using World.cell?_spot hc0
      subst hs
      refine ⟨fun i => zs.getD i 0, .inr ⟨b, o, rfl, lt_of_cell hc0, fun i hi => ?_⟩, by omega⟩
      have := hc i (by omega)
      have ea : Addr.add ⟨b, o, none⟩ i = ⟨b, o + i, none⟩ := by
        by_cases h0 : i = 0
        · subst h0; simp [Addr.add]
        · simp [Addr.add, h0]
      rw [ea] at this
      exact this
theorem any_walk (a0 a1 a2 : Int) (a3 : Option Addr) (len3 cap3 : Nat) (z3 : List Int) (a4 : Int) (a5 : Option Addr) (len5 cap5 : Nat) (z5 : List Int) (w : World) (w3 : CameIn w a3 len3 cap3 z3) (w5 : CameI w a5 len5 cap5 z5) :
    Calls Try.prog 6 #[.int .i64 a0, .int .i64 a1, .int .i64 a2, .slice a3 len3 cap3, .int .i64 a4, .slice a5 len5 cap5] w fun e w' => e = .returned (.bool true) ∧ Below w.heap.size w w' := by
  by_cases h : 1000 < len3
  · exact any_long a0 a1 a2 a4 a3 a5 len3 cap3 len5 cap5 w h
  · obtain ⟨za, hza⟩ := SlN.of w3
    obtain ⟨f, hf⟩ := SlI.of w5
    exact any_short a0 a1 a2 a4 a3 a5 len3 cap3 len5 cap5 za f w (by omega) hza hf
end Go.Proofs.Ytcmcejgjajfkbaa
