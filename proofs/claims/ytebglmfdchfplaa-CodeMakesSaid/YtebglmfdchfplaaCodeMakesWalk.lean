/- The law CodeMakes, walked. -/
import Derived.Test.YtebglmfdchfplaaCodeMakesParts
namespace Go.Proofs.Ytebglmfdchfplaa
open Go.RowKit
set_option linter.unusedVariables false

set_option maxRecDepth 100000 in
set_option maxHeartbeats 6400000 in
theorem cmakes_short (a2 a3 a4 a5 a6 a8 : Int) (a0 a1 a7 : Option Addr) (n0 c0 n1 c1 n7 c7 : Nat) (X Y za : List Nat) (w : World) (h0 : n0 ≤ 30) (h1 : n1 ≤ 30) (h7 : n7 ≤ 1000) (hX : SlN w a0 n0 X) (hY : SlN w a1 n1 Y) (hza : SlN w a7 n7 za) :
    Calls Try.prog 5 #[.slice a0 n0 c0, .slice a1 n1 c1, .int .i64 a2, .int .i64 a3, .int .i64 a4, .int .i64 a5, .int .i64 a6, .slice a7 n7 c7, .int .i64 a8] w fun e w' => e = .returned (.bool true) ∧ Below w.heap.size w w' := by
  have hnot : ∀ (x : Bool) (w : World), (Op.unary .not (.bool x)).run Try.prog w = .ok (.bool (!x)) w := fun _ _ => rfl
  have HZ := hid (And.intro hza (And.intro hX hY))
  clear hza hX hY
  obtain ⟨y, k, hk1, hk2, hk3, k1, k14, hy⟩ := md_k a2
  obtain ⟨r, hr, r1, r4⟩ := i64_and3 a3
  have HK := hid (And.intro hk1 (And.intro hk2 (And.intro hk3 (And.intro hy hr))))
  clear hk1 hk2 hk3 hy hr
  go_enter Try.func5, Try.ntmps5
  go_upto_region 3 with fail
  go_cut [19, 20] (fun s19 s20 wx => ∃ F, LS w [F] wx ∧ ((May X Y ∧ ∃ c, s19 = .pointer (some ⟨c, 0, none⟩) ∧ s20 = .int .i64 0) ∨ (¬ May X Y ∧ s19 = .pointer none ∧ s20 = .int .i64 1)))
  case first =>
    as_aux_lemma =>
    go_wp2_with fail
    refine (gfNewF _).mono ?_
    rintro e wa ⟨F, rfl, k1⟩
    have H1 := hid ((LS.start w).newF k1)
    clear k1
    go_wp2_with fail
    refine (cnew_raw H1.out (List.mem_cons_self ..) HZ.out.2.1 HZ.out.2.2).mono ?_
    rintro e wb ⟨⟨hg, c, rfl⟩ | ⟨hg, rfl⟩, k2⟩
    · have H2 := hid (And.intro (H1.out.nxt k2) hg)
      clear k2 hg H1
      go_wp2_with fail
      go_meet
      case rel => exact ⟨F, H2.out.1, .inl ⟨H2.out.2, c, rfl, rfl⟩⟩
    · have H2 := hid (And.intro (H1.out.nxt k2) hg)
      clear k2 hg H1
      go_wp2_with fail
      go_meet
      case rel => exact ⟨F, H2.out.1, .inr ⟨H2.out.2, rfl, rfl⟩⟩
  case rest =>
    as_aux_lemma =>
    obtain ⟨F1, hls, hd⟩ := hcut
    have HD := hid (And.intro hls hd)
    clear hls hd
    go_wp2_with fail
    refine (may_raw HD.out.1 HZ.out.2.1 HZ.out.2.2).mono ?_
    rintro e wc ⟨hm, nc⟩
    obtain ⟨bv, rfl, hbv⟩ : ∃ bv, e = .returned (.bool bv) ∧ ((bv = true ∧ May X Y) ∨ (bv = false ∧ ¬ May X Y)) := by
      rcases hm with ⟨rfl, hm⟩ | ⟨rfl, hm⟩
      · exact ⟨_, rfl, .inl ⟨rfl, hm⟩⟩
      · exact ⟨_, rfl, .inr ⟨rfl, hm⟩⟩
    have HE := hid (And.intro (HD.out.1.nxt nc) hbv)
    clear hm nc hbv
    go_upto_region 5 with fail
    go_cut [73] (fun s73 wx => s73 = .bool false ∧ LS w [F1] wx)
    case first =>
      as_aux_lemma =>
      obtain ⟨hg, c, rfl, rfl⟩ | ⟨hg, rfl, rfl⟩ := HD.out.2
      · obtain ⟨rfl, _⟩ | ⟨_, hn⟩ := HE.out.2
        · go_wp2_with fail
          go_meet
          case rel => exact ⟨rfl, HE.out.1⟩
        · exact absurd hg hn
      · obtain ⟨_, hn⟩ | ⟨rfl, _⟩ := HE.out.2
        · exact absurd hn hg
        · go_wp2_with fail
          go_meet
          case rel => exact ⟨rfl, HE.out.1⟩
    case rest =>
      as_aux_lemma =>
      obtain ⟨rfl, hls⟩ := hcut
      have H0 := hid hls
      clear hls HD HE
      go_wp2_with fail
      refine (madeL (H0.out) HK.out.1 HK.out.2.1 HK.out.2.2.1 k1 k14 HK.out.2.2.2.1 HK.out.2.2.2.2 r1 r4).mono ?_
      rintro e w1 ⟨gx, cx, gy, cy, rfl, rx, ry, n1⟩
      have hl := (H0.out).nxt n1
      have H1 := hid (And.intro (hl.nxt (hl.alloc (.cells #[.slice (some ⟨gx, 0, none⟩) k cx, .slice (some ⟨gy, 0, none⟩) r cy] 25))) (LC.new (k := k) (r := r) (cx := cx) (cy := cy) hl rx ry 25))
      clear hl rx ry n1
      go_wp2_with fail
      generalize (w1.alloc (.cells #[.slice (some ⟨gx, 0, none⟩) k cx, .slice (some ⟨gy, 0, none⟩) r cy] 25)) = w2 at *
      generalize w1.heap.size = V at *
      have HD : Hid (LS w [F1] w2.drew ∧ LC [F1] w2.drew V gx cx gy cy k r (mdX a4 k) (mdY a4 k r)) := ⟨H1.out.1.nxt H1.out.1.drew, H1.out.2.nxt H1.out.1.drew⟩
      have s1 : w2.cell? ⟨V, 0, none⟩ = some (.slice (some ⟨gx, 0, none⟩) k cx) := H1.out.2.c0
      have s2 : w2.cell? ⟨V, 1, none⟩ = some (.slice (some ⟨gy, 0, none⟩) r cy) := H1.out.2.c1
      go_region_held3 (fun w' => w'.cell? ⟨V, 0, none⟩ = some (.slice (some ⟨gx, 0, none⟩) k cx) ∧ w'.cell? ⟨V, 1, none⟩ = some (.slice (some ⟨gy, 0, none⟩) r cy)) (first | exact ⟨by assumption, by assumption⟩ | go_keep)
        ((first
          | (go_at_call 11; (with_reducible refine (gfNewF _).mono ?_); rintro e w3 ⟨F, rfl, n3⟩; have H3 := hid (And.intro (HD.out.1.newF n3) (HD.out.2.newF n3)); have t1 := H3.out.2.c0; have t2 := H3.out.2.c1; clear n3)
          | (go_at_call 10; (with_reducible refine (codeL H3.out.1 (List.mem_cons_self ..) H3.out.2 k1 k14 r1 r4).mono ?_); rintro e w4 ⟨c, pp, pq, sp, sq, rfl, cs, n4⟩; have H4 := hid cs; have t3 := H4.out.lc.c0; have t4 := H4.out.lc.c1; clear cs n4)))
      clear s1 s2 t1 t2 t3 t4 H1 H3 HD
      have x0 := H4.out.lc.c0
      have x1 := H4.out.lc.c1
      go_wp2_with fail
      refine (csize_any H4.out.cd).mono ?_
      rintro e w5 ⟨rfl, d5, rfl⟩
      have n5 := H4.out.ls.drewN d5
      have H5 := hid (H4.out.nxt n5)
      clear n5 x0 x1
      have HFM : Hid (F ∈ [F, F1]) := List.mem_cons_self ..
      obtain ⟨yy, hyy, _⟩ := i64_and255 a8
      have et : (yy : Int).tmod 70 = ((yy % 70 : Nat) : Int) := by rw [Int.tmod_eq_emod_of_nonneg (by omega)]; simp
      have em : (yy : Int) % 70 = ((yy % 70 : Nat) : Int) := by simp
      have hL70 : yy % 70 < 70 := Nat.mod_lt _ (by omega)
      obtain ⟨L, LE⟩ : ∃ l, Hid (yy % 70 = l) := ⟨_, rfl⟩
      rw [LE.out] at et em hL70
      have x0 := H5.out.lc.c0
      go_wp2_with fail
      refine (dataL (L := L) H5.out.ls HFM.out HZ.out.1 k1 k14 (by omega)).mono ?_
      rintro e w6 ⟨gd, cd, bd, rfl, de, _, du⟩
      have H6 := hid (And.intro (H5.out.nxt (H5.out.ls.nul du)) (de.ll H5.out.ls))
      have HSD : Hid (∀ i u, (dat L za i).getD u 0 < 256) := dat_small fun i => HZ.out.1.small i
      clear de du x0 et em hyy
      obtain ⟨D, HDD⟩ : ∃ D, Hid (D = dat L za) := ⟨_, rfl⟩
      rw [← HDD.out] at H6 HSD
      have HLD : Hid (∀ i, (D i).length = L) := fun i => by rw [HDD.out]; exact dat_length _ _ _
      by_cases hL64 : 64 < L
      · have i64 : (64 : Int) < (L : Int) := by omega
        go_wp2_with fail
        refine (enc_bad [F, F1] w w6 c F k r pp pq sp sq _ gd 0 cd _ H6.out.1.ls H6.out.1.cd H6.out.2.lens H6.out.2.lt ⟨0, by omega, .inl (by show 64 < ((some (D 0)).getD []).length; rw [show ((some (D 0)).getD [] : List Nat) = D 0 from rfl, HLD.out]; exact hL64)⟩).mono ?_
        rintro e w7 ⟨rfl, u7⟩
        have H7 := hid (H6.out.1.nxt (H6.out.1.ls.nul u7))
        clear u7
        go_wp2_with ((go_at_call 8; (with_reducible refine (awakeL H7.out.ls).mono ?_); rintro e w8 ⟨rfl, k8⟩; have K := hid (H7.out.ls.nxt k8); clear k8))
        go_ret
        exact ⟨rfl, K.out.below⟩
      have i64 : ¬ (64 : Int) < (L : Int) := by omega
      go_wp2_with fail
      refine (encL (L := L) H6.out.1.ls H6.out.1.cd H6.out.2 (fun i _ => HLD.out i) (by omega)).mono ?_
      rintro e w7 ⟨gp, bp, rfl, pe, pn, pu⟩
      have H7 := hid (And.intro (H6.out.1.nxt pn) (And.intro (H6.out.2.nxt pn) (pe.ll H6.out.1.ls)))
      clear pe pn pu
      obtain ⟨ad, hsl⟩ := tail_s gd k cd k1
      go_wp2_with fail
      refine (enc_len [F, F1] w w7 c F k r pp pq sp sq _ (k - 1) (cd - 1) ad H7.out.1.ls H7.out.1.cd (by omega)).mono ?_
      rintro e w8 ⟨rfl, u8⟩
      have n8 := H7.out.1.ls.nul u8
      have H8 := hid (And.intro (H7.out.1.nxt n8) (And.intro (H7.out.2.1.nxt n8) (H7.out.2.2.nxt n8)))
      clear u8 n8
      have x0 := H8.out.1.lc.c0
      have x1 := H8.out.1.lc.c1
      go_wp2_with fail
      refine (new_nil2 _ _ w8).mono ?_
      rintro e w9 ⟨rfl, h9⟩
      subst h9
      have HD := hid (And.intro (H8.out.1.nxt H8.out.1.ls.drew) (And.intro (H8.out.2.1.nxt H8.out.1.ls.drew) (H8.out.2.2.nxt H8.out.1.ls.drew)))
      have q0 := HD.out.1.lc.c0
      have q1 := HD.out.1.lc.c1
      have hk100 : k ≤ 100 := by omega
      have hr100 : r ≤ 100 := by omega
      have hL7 : L ≤ 70 := by omega
      clear x0 x1 hsl H8 H7 H6 H5 H4
      go_wp2_with fail
      go_region_held3 (fun w' => w'.cell? ⟨V, 0, none⟩ = some (.slice (some ⟨gx, 0, none⟩) k cx) ∧ w'.cell? ⟨V, 1, none⟩ = some (.slice (some ⟨gy, 0, none⟩) r cy))
        (first | exact ⟨by assumption, by assumption⟩ | go_keep)
        ((first
          | (go_at_call 21; (with_reducible refine (coefL HD.out.1.cd a6 a5).mono ?_); rintro e wA ⟨rfl, uA⟩; have nA := HD.out.1.ls.nul uA; clear uA; have HA := hid (And.intro (HD.out.1.nxt nA) (And.intro (HD.out.2.1.nxt nA) (HD.out.2.2.nxt nA))); have v1 := HA.out.1.lc.c0; have v2 := HA.out.1.lc.c1; clear nA)
          | (go_at_call 22; (with_reducible refine (refCoef_raw [F, F1] gx 0 cx gy 0 cy k r (mdX a4 k) (mdY a4 k r) _ HA.out.1.lc.x HA.out.1.lc.y (mdX_length _ _) (mdY_length _ _ _) a6 a5).mono ?_); rintro e wB ⟨rfl, uB⟩; have nB := HA.out.1.ls.nul uB; have HB := hid (And.intro (HA.out.1.nxt nB) (And.intro (HA.out.2.1.nxt nB) (HA.out.2.2.nxt nB))); have v3 := HB.out.1.lc.c0; have v4 := HB.out.1.lc.c1; clear nB uB)
          | (go_at_call 18; (with_reducible refine (stringsL HB.out.1.ls HB.out.2.2 r1 hr100).mono ?_); rintro e wC ⟨gC, cC, rfl, stC, uC⟩; have nC := HB.out.1.ls.nul uC; have HC := hid (And.intro (HB.out.1.nxt nC) (And.intro (HB.out.2.1.nxt nC) stC)); have v5 := HC.out.1.lc.c0; have v6 := HC.out.1.lc.c1; clear nC uC stC)
          | (go_at_call 18; (with_reducible refine (stringsL HC.out.1.ls HC.out.2.1 k1 hk100).mono ?_); rintro e wE ⟨gE, cE, rfl, stE, uE⟩; have nE := HC.out.1.ls.nul uE; have HE2 := hid (And.intro (HC.out.1.nxt nE) (And.intro (HC.out.2.2.up uE) stE)); have v7 := HE2.out.1.lc.c0; have v8 := HE2.out.1.lc.c1; clear nE uE stE)
          | (go_at_call 23; (with_reducible refine (refEncL (D := D) HE2.out.1.ls HE2.out.1.lc.x HE2.out.1.lc.y (mdX_length _ _) (mdY_length _ _ _) k1 k14 r1 r4 HE2.out.2.2 (fun i _ => HLD.out i) HSD.out hL7).mono ?_); rintro e wG ⟨gG, cG, rfl, stG, uG⟩; have nG := HE2.out.1.ls.nul uG; have HG2 := hid (And.intro (HE2.out.1.nxt nG) (And.intro (HE2.out.2.1.up uG) stG)); have v9 := HG2.out.1.lc.c0; have va := HG2.out.1.lc.c1; clear nG uG stG)
          | (go_at_call 17; (with_reducible refine (same_yes _ _ _ _ _ _ _ HG2.out.2.1 HG2.out.2.2 hr100).mono ?_); rintro e wH ⟨rfl, uH⟩; have HH := hid (HG2.out.1.nxt (HG2.out.1.ls.nul uH)); have vb := HH.out.lc.c0; have vc := HH.out.lc.c1; clear uH)
          | (go_at_call 8; (with_reducible refine (awakeL HH.out.ls).mono ?_); rintro e wK ⟨rfl, kK⟩; have HKK := hid (HH.out.nxt kK); have vd := HKK.out.lc.c0; have ve := HKK.out.lc.c1; clear kK)))
      go_wp2
      go_ret
      exact ⟨rfl, HKK.out.ls.below⟩
set_option maxRecDepth 100000 in
theorem cmakes_long (a2 a3 a4 a5 a6 a8 : Int) (a0 a1 a7 : Option Addr) (n0 c0 n1 c1 n7 c7 : Nat) (w : World) (h : 30 < n0 ∨ 30 < n1 ∨ 1000 < n7) :
    Calls Try.prog 5 #[.slice a0 n0 c0, .slice a1 n1 c1, .int .i64 a2, .int .i64 a3, .int .i64 a4, .int .i64 a5, .int .i64 a6, .slice a7 n7 c7, .int .i64 a8] w fun e w' => e = .returned (.bool true) ∧ Below w.heap.size w w' := by
  by_cases h0 : 30 < n0
  · have i0 : (30 : Int) < (n0 : Int) := by omega
    clear h
    go_enter Try.func5, Try.ntmps5
    go_wp2_with ((go_at_call 8; (with_reducible refine (awakeL (LS.start w)).mono ?_); rintro e w1 ⟨rfl, k1⟩; have K := hid ((LS.start w).nxt k1); clear k1))
    go_ret
    exact ⟨rfl, K.out.below⟩
  have i0 : ¬ (30 : Int) < (n0 : Int) := by omega
  by_cases h1 : 30 < n1
  · have i1 : (30 : Int) < (n1 : Int) := by omega
    clear h
    go_enter Try.func5, Try.ntmps5
    go_wp2_with ((go_at_call 8; (with_reducible refine (awakeL (LS.start w)).mono ?_); rintro e w1 ⟨rfl, k1⟩; have K := hid ((LS.start w).nxt k1); clear k1))
    go_ret
    exact ⟨rfl, K.out.below⟩
  have i1 : ¬ (30 : Int) < (n1 : Int) := by omega
  have i2 : (1000 : Int) < (n7 : Int) := by omega
  clear h
  go_enter Try.func5, Try.ntmps5
  go_wp2_with ((go_at_call 8; (with_reducible refine (awakeL (LS.start w)).mono ?_); rintro e w1 ⟨rfl, k1⟩; have K := hid ((LS.start w).nxt k1); clear k1))
  go_ret
  exact ⟨rfl, K.out.below⟩
theorem cmakes_walk (a0 : Option Addr) (len0 cap0 : Nat) (z0 : List Int) (a1 : Option Addr) (len1 cap1 : Nat) (z1 : List Int) (a2 a3 a4 a5 a6 : Int) (a7 : Option Addr) (len7 cap7 : Nat) (z7 : List Int) (a8 : Int) (w : World) (w0 : CameIn w a0 len0 cap0 z0) (w1 : CameIn w a1 len1 cap1 z1) (w7 : CameIn w a7 len7 cap7 z7) :
    Calls Try.prog 5 #[.slice a0 len0 cap0, .slice a1 len1 cap1, .int .i64 a2, .int .i64 a3, .int .i64 a4, .int .i64 a5, .int .i64 a6, .slice a7 len7 cap7, .int .i64 a8] w fun e w' => e = .returned (.bool true) ∧ Below w.heap.size w w' := by
  by_cases h : 30 < len0 ∨ 30 < len1 ∨ 1000 < len7
  · exact cmakes_long a2 a3 a4 a5 a6 a8 a0 a1 a7 len0 cap0 len1 cap1 len7 cap7 w h
  · obtain ⟨X, hX⟩ := SlN.of w0
    obtain ⟨Y, hY⟩ := SlN.of w1
    obtain ⟨za, hza⟩ := SlN.of w7
    exact cmakes_short a2 a3 a4 a5 a6 a8 a0 a1 a7 len0 cap0 len1 cap1 len7 cap7 X Y za w (by omega) (by omega) (by omega) hX hY hza
end Go.Proofs.Ytebglmfdchfplaa
