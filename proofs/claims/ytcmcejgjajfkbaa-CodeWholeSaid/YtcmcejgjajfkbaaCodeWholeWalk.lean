/- The law CodeWhole, walked. -/
import Derived.Test.YtcmcejgjajfkbaaCodeStr
namespace Go.Proofs.Ytcmcejgjajfkbaa
open Go.RowKit
set_option linter.unusedVariables false

set_option maxRecDepth 100000 in
theorem whole_long (a0 a1 a2 a4 : Int) (a : Option Addr) (n cap : Nat) (w : World) (h : 500 < n) :
    Calls Try.prog 3 #[.int .i64 a0, .int .i64 a1, .int .i64 a2, .slice a n cap, .int .i64 a4] w fun e w' => e = .returned (.bool true) ∧ Below w.heap.size w w' := by
  go_enter Try.func3, Try.ntmps3
  go_wp2_with ((go_at_call 8; (with_reducible refine (awakeL (LS.start w)).mono ?_); rintro e w1 ⟨rfl, k1⟩; have K := hid ((LS.start w).nxt k1); clear k1))
  go_ret
  exact ⟨rfl, K.out.below⟩
/-- All shards, one of them turned. -/
def odd (R : Nat → List Nat) (i : Nat) (t : Nat) : List Nat := if t = i then (R i).set 3 ((R i).getD 3 0 ^^^ 5) else R t
theorem Row.put {w : World} {q j v : Nat} {y : List Nat} (h : Row w q 0 y) (hj : j < y.length) (hv : v < 256) : Row (w.setCell ⟨q, j, none⟩ (.int .u8 v)) q 0 (y.set j v) := by
  have hc := h.cells j hj
  rw [Nat.zero_add] at hc
  refine ⟨fun i hi => ?_, fun i => ?_⟩
  · rw [List.length_set] at hi
    rw [Nat.zero_add, getD_set _ _ _ _ hj]
    by_cases e : i = j
    · subst e
      rw [if_pos rfl]
      exact World.cell?_setCell_same _ _ _ hc
    · rw [if_neg e, World.cell?_setCell_other _ _ _ _ (by intro e2; have := congrArg Addr.off e2; simp at this; omega)]
      have := h.cells i hi
      rw [Nat.zero_add] at this
      exact this
  · rw [getD_set _ _ _ _ hj]
    split
    · exact hv
    · exact h.small i
theorem odd_length {R : Nat → List Nat} {i : Nat} (h : ∀ t, (R t).length = 9) (t : Nat) : (odd R i t).length = 9 := by
  unfold odd
  split
  · rw [List.length_set]; exact h i
  · exact h t
theorem odd_small {R : Nat → List Nat} {i : Nat} (hl : ∀ t, (R t).length = 9) (h : ∀ t u, (R t).getD u 0 < 256) (t u : Nat) : (odd R i t).getD u 0 < 256 := by
  unfold odd
  split
  · rw [getD_set _ _ _ _ (by rw [hl]; omega)]
    split
    · exact GfM.xor_lt (h i 3) (by omega)
    · exact h i u
  · exact h t u
theorem odd_ne {R : Nat → List Nat} {i : Nat} (hl : ∀ t, (R t).length = 9) : (odd R i i).getD 3 0 ≠ (R i).getD 3 0 := by
  unfold odd
  rw [if_pos rfl, getD_set _ _ _ _ (by rw [hl]; omega), if_pos rfl]
  intro e
  have e2 : (R i).getD 3 0 ^^^ ((R i).getD 3 0 ^^^ 5) = (R i).getD 3 0 ^^^ (R i).getD 3 0 := by rw [e]
  rw [← Nat.xor_assoc, Nat.xor_self, Nat.zero_xor] at e2
  omega
theorem odd_else {R : Nat → List Nat} {i t : Nat} (h : t ≠ i) : odd R i t = R t := by unfold odd; rw [if_neg h]
/-- What is turned does not agree. -/
theorem odd_bad {k r i : Nat} {Z : List Nat} {R : Nat → List Nat} (hl : ∀ t, (R t).length = 9) (hs : ∀ t u, (R t).getD u 0 < 256) (hc : ∀ j, acrZ k 9 Z R j = R (k + j)) (hi : i < k + r) (r1 : 1 ≤ r) (hz : ∀ q j, q < k → j < r → Z.getD (j * k + q) 0 ≠ 0) :
    ∃ j, j < r ∧ acrZ k 9 Z (odd R i) j ≠ odd R i (k + j) := by
  rcases Nat.lt_or_ge i k with h | h
  · refine ⟨0, by omega, ?_⟩
    rw [odd_else (by omega), ← hc]
    exact acr_turn h (show 3 < 9 by omega) (fun s _ hne => by rw [odd_else hne]) (odd_ne hl) hs (odd_small hl hs) (hz i 0 h (by omega))
  · refine ⟨i - k, by omega, ?_⟩
    rw [show k + (i - k) = i by omega]
    intro e
    have e1 : acrZ k 9 Z (odd R i) (i - k) = acrZ k 9 Z R (i - k) := acrZ_congr fun s hsk => odd_else (by omega)
    rw [e1, hc, show k + (i - k) = i by omega] at e
    exact odd_ne (i := i) hl (by rw [← e])
theorem fine_all {R : Nat → List Nat} {n L : Nat} (h : ∀ t, (R t).length = L) : Fine (fun t => some (R t)) n L := fun t _ z e => by cases e; exact h t
theorem fine_out {S : Nat → Option (List Nat)} {n L i : Nat} (h : Fine S n L) : Fine (out1 S i) n L := fun t ht z e => by
  unfold out1 at e
  split at e
  · cases e
  · exact h t ht z e

set_option maxRecDepth 100000 in
set_option maxHeartbeats 6400000 in
theorem whole_short (a0 a1 a2 a4 : Int) (a : Option Addr) (n cap : Nat) (za : List Nat) (w : World) (hn : n ≤ 500) (hza : SlN w a n za) :
    Calls Try.prog 3 #[.int .i64 a0, .int .i64 a1, .int .i64 a2, .slice a n cap, .int .i64 a4] w fun e w' => e = .returned (.bool true) ∧ Below w.heap.size w w' := by
  have hnot : ∀ (x : Bool) (w : World), (Op.unary .not (.bool x)).run Try.prog w = .ok (.bool (!x)) w := fun _ _ => rfl
  have HZ := hid hza
  clear hza
  obtain ⟨y, k, hk1, hk2, hk3, k1, k14, hy⟩ := md_k a0
  obtain ⟨r, hr, r1, r4⟩ := i64_and3 a1
  have HK := hid (And.intro hk1 (And.intro hk2 (And.intro hk3 (And.intro hy hr))))
  clear hk1 hk2 hk3 hy hr
  go_enter Try.func3, Try.ntmps3
  go_wp2_with fail
  refine (madeL (LS.start w) HK.out.1 HK.out.2.1 HK.out.2.2.1 k1 k14 HK.out.2.2.2.1 HK.out.2.2.2.2 r1 r4).mono ?_
  rintro e w1 ⟨gx, cx, gy, cy, rfl, rx, ry, n1⟩
  have hl := (LS.start w).nxt n1
  have H1 := hid (And.intro (hl.nxt (hl.alloc (.cells #[.slice (some ⟨gx, 0, none⟩) k cx, .slice (some ⟨gy, 0, none⟩) r cy] 25))) (LC.new (k := k) (r := r) (cx := cx) (cy := cy) hl rx ry 25))
  clear hl rx ry n1
  go_wp2_with fail
  generalize (w1.alloc (.cells #[.slice (some ⟨gx, 0, none⟩) k cx, .slice (some ⟨gy, 0, none⟩) r cy] 25)) = w2 at *
  generalize w1.heap.size = V at *
  have HD : Hid (LS w [] w2.drew ∧ LC [] w2.drew V gx cx gy cy k r (mdX a2 k) (mdY a2 k r)) := ⟨H1.out.1.nxt H1.out.1.drew, H1.out.2.nxt H1.out.1.drew⟩
  have s1 : w2.cell? ⟨V, 0, none⟩ = some (.slice (some ⟨gx, 0, none⟩) k cx) := H1.out.2.c0
  have s2 : w2.cell? ⟨V, 1, none⟩ = some (.slice (some ⟨gy, 0, none⟩) r cy) := H1.out.2.c1
  go_region_held3 (fun w' => w'.cell? ⟨V, 0, none⟩ = some (.slice (some ⟨gx, 0, none⟩) k cx) ∧ w'.cell? ⟨V, 1, none⟩ = some (.slice (some ⟨gy, 0, none⟩) r cy)) (first | exact ⟨by assumption, by assumption⟩ | go_keep)
    ((first
      | (go_at_call 11; (with_reducible refine (gfNewF _).mono ?_); rintro e w3 ⟨F, rfl, n3⟩; have H3 := hid (And.intro (HD.out.1.newF n3) (HD.out.2.newF n3)); have t1 := H3.out.2.c0; have t2 := H3.out.2.c1; clear n3)
      | (go_at_call 10; (with_reducible refine (codeL H3.out.1 (List.mem_cons_self ..) H3.out.2 k1 k14 r1 r4).mono ?_); rintro e w4 ⟨c, pp, pq, sp, sq, rfl, cs, n4⟩; have H4 := hid cs; have t3 := H4.out.lc.c0; have t4 := H4.out.lc.c1; clear cs n4)))
  clear s1 s2 t1 t2 t3 t4 H1 H3 HD
  have x1 := H4.out.lc.c0
  have HFM : Hid (F ∈ [F]) := List.mem_cons_self ..
  go_wp2_with fail
  refine (dataL9 H4.out.ls HFM.out HZ.out k1 k14).mono ?_
  rintro e w5 ⟨gd, cd, bd, rfl, de, _, du⟩
  have H5 := hid (And.intro (H4.out.nxt (H4.out.ls.nul du)) de)
  have L4 := hid H4.out.ls
  have HF4 := hid (H4.out.ls.fld F HFM.out).lt
  have HSD : Hid (∀ i u, (dat 9 za i).getD u 0 < 256) := dat_small fun i => HZ.out.small i
  clear de du x1
  obtain ⟨D, HDD⟩ : ∃ D, Hid (D = dat 9 za) := ⟨_, rfl⟩
  rw [← HDD.out] at H5 HSD
  have HLD : Hid (∀ i, (D i).length = 9) := fun i => by rw [HDD.out]; exact dat_length _ _ _
  go_wp2_with fail
  refine (encL H5.out.1.ls H5.out.1.cd (H5.out.2.ll L4.out) (fun i _ => HLD.out i) (by omega)).mono ?_
  rintro e w6 ⟨gp, bp, rfl, pe, pn, pu⟩
  have H6 := hid (And.intro (H5.out.1.nxt pn) (And.intro (H5.out.2.fld HF4.out pu) pe))
  have HLT : Hid (∀ i, i < k → bd i < w5.heap.size) := fun i hi => H5.out.2.lt hi
  have U45 := hid H5.out.2.up
  have x1 := H6.out.1.lc.c1
  clear pe pn pu
  have HA1 : Hid (OwnV 22 w6.heap.size (w6.alloc (.cells #[] 22)) (.slice (some ⟨w6.heap.size, 0, none⟩) 0 0) []) := World.ownsRow_made w6 #[] 0 (Nat.le_refl _) (by unfold maxLen; omega) rfl
  have UA := hid ((Up.refl Nul w6).alloc (.cells #[] 22))
  have HI0 : Hid (∃ yy i0 : Nat, bits .and .i64 a4 255 = (yy : Int) ∧ (yy : Int).tmod ((k : Int) + (r : Int)) = (i0 : Int) ∧ (yy : Int) % ((k : Int) + (r : Int)) = (i0 : Int) ∧ i0 < k + r ∧ ((k : Int) + (r : Int) == 0) = false) := by
    obtain ⟨yy, e, _⟩ := i64_and255 a4
    have ec : (k : Int) + (r : Int) = ((k + r : Nat) : Int) := by simp
    refine ⟨yy, yy % (k + r), e, ?_, ?_, Nat.mod_lt _ (by omega), ?_⟩
    · rw [ec, Int.tmod_eq_emod_of_nonneg (by omega)]
      simp
    · rw [ec]
      simp
    · simp
      omega
  have HLk : Hid (([] ++ lnV k 9 bd : List Value).length + r ≤ 1000000) := by show _ ≤ _; rw [List.length_append, lnV_length]; simp; omega
  go_wp2_with (first
    | (at_builtin; refine wpList_append_vals Try.underlying33 info_sl rfl (by omega) rfl (.tmp 73) (.tmp 74) rfl w6.heap.size _ [] rfl HA1.out ⟨gd, 0, none⟩ k cd (lnV k 9 bd) rfl (fun j u hj => (UA.out.cell (by rw [add_block]; exact H6.out.2.1.gll) id).trans (H6.out.2.1.vals j u hj)) (lnV_one _ _ _) (lnV_length _ _ _) (by simp; omega) UA.out.size ?_; intro v7 w7 G1 G2; have U7 := hid (UA.out.grown G2.out fun q hq => HA1.out.base q hq))
    | (at_builtin; refine wpList_append_vals Try.underlying33 info_sl rfl (by omega) rfl (.tmp 75) (.tmp 76) rfl w6.heap.size _ ([] ++ lnV k 9 bd) rfl G1.out ⟨gp, 0, none⟩ r r (lnV r 9 bp) rfl (fun j u hj => (U7.out.cell (by rw [add_block]; exact H6.out.2.2.gll) id).trans (H6.out.2.2.vals j u hj)) (lnV_one _ _ _) (lnV_length _ _ _) HLk.out U7.out.size ?_; intro v8 w8 G3 G4; have U8 := hid (U7.out.grown G4.out fun q hq => G1.out.base q hq); obtain ⟨gA, cA, rfl, ael, acap⟩ := whole_made2 (w4 := w8) H6.out.2.1 H6.out.2.2 HLT.out U45.out G3.out (Nat.le_refl _) U8.out k1; have HEA := hid (And.intro ael acap); clear ael acap; obtain ⟨yy, i0, hy1, hy2, hy3, hi0, hkr⟩ := HI0.out))
  obtain ⟨R, HR⟩ : ∃ R, Hid (R = full k 9 (coefZ k r (mdX a2 k) (mdY a2 k r)) D) := ⟨_, rfl⟩
  have HRL : Hid (∀ t, (R t).length = 9) := fun t => by rw [HR.out]; exact full_len fun i _ => HLD.out i
  have HRS : Hid (∀ t u, (R t).getD u 0 < 256) := fun t u => by
    rw [HR.out]
    rcases Nat.lt_or_ge t k with h | h
    · rw [full_low h]; exact HSD.out t u
    · rw [full_high h]; exact acrZ_small _ _ _ _ _ u
  have HRC : Hid (∀ j, acrZ k 9 (coefZ k r (mdX a2 k) (mdY a2 k r)) R j = R (k + j)) := fun j => by
    rw [HR.out, full_high (by omega), show k + j - k = j by omega]
    exact acrZ_congr fun s hs => full_low hs
  have hel : Elim w4 F gA (k + r) 9 (two k bd bp) R w8 := by rw [HR.out]; exact HEA.out.1
  have H8 := hid (And.intro (H6.out.1.nxt (H6.out.1.ls.nul U8.out)) hel)
  have HCA := hid HEA.out.2
  clear hel HEA H5 H6 HLT U45 HA1 UA HLk G1 G2 G3 G4 U7 U8 HI0
  obtain ⟨ba, BA⟩ : ∃ b, Hid (b = two k bd bp) := ⟨_, rfl⟩
  rw [← BA.out] at H8
  have hkr18 : k + r ≤ 18 := by omega
  refine (check_good [F] w w8 c F k r pp pq sp sq _ gA 0 (k + r) cA 9 R H8.out.1.ls H8.out.1.cd (H8.out.2.ll L4.out) rfl (fun t _ => HRL.out t) (by omega) HCA.out).mono ?_
  rintro e w9 ⟨⟨rfl, _⟩ | ⟨rfl, j, hj, hne⟩, u9, f9⟩
  rotate_left
  · exact absurd (HRC.out j) hne
  have H9 := hid (And.intro (H8.out.1.nxt (H8.out.1.ls.one HFM.out u9 f9)) (H8.out.2.fld HF4.out u9))
  clear u9 f9 H8
  have HREG : Hid (∀ S : Nat → Option (List Nat), k ≤ (Tl S (k + r)).length → ∃ M, GfM.run k (GfM.beside k (cz k (pickZ k k (unitZ k ++ (coefZ k r (mdX a2 k) (mdY a2 k r))) fun i => (Tl S (k + r)).getD i 0))) k = some M) := fun S hS => md_regular S hkr18 hS
  go_wp2_with fail
  refine (reb_any [F] w w9 c F k r pp pq sp sq _ gA 0 (k + r) cA 9 i0 (fun t => some (R t)) H9.out.1.ls H9.out.1.cd (H9.out.2.ll L4.out) rfl (fine_all HRL.out) (by omega) hi0 (HREG.out _)).mono ?_
  rintro e w10 ⟨⟨hlost, rfl⟩ | ⟨M, bS, hM, rfl, hbS, _, hbw⟩, u10, f10⟩
  · rw [Tl_out1 (fun _ => rfl), if_pos hi0] at hlost
    omega
  have hdec : decZ k r 9 (coefZ k r (mdX a2 k) (mdY a2 k r)) (out1 (fun t => some (R t)) i0) M i0 = R i0 := by
    have h := dec_right (D := D) stack_small (fun i _ => HLD.out i) HSD.out (by rw [Tl_out1 (fun _ => rfl), if_pos hi0]; omega) (fun t ht z e => by
      unfold out1 at e
      split at e
      · cases e
      · cases e
        rw [HR.out]) hM hi0
    rw [h, HR.out]
  rw [hdec] at hbS
  have H10 := hid (And.intro (H9.out.1.nxt (H9.out.1.ls.one HFM.out u10 f10)) (And.intro (H9.out.2.fld HF4.out u10) hbS))
  clear u10 f10 hM hdec hbw hbS H9
  have x1 := H10.out.2.1.lin i0 hi0
  have z1 := conv_row (cap := 9) (blk_row H10.out.2.2.drew) (HRL.out i0)
  have z2 := conv_row (cap := 9) (blk_row (H10.out.2.1.rows i0 hi0).drew) (HRL.out i0)
  have hqq : ((strOf (R i0)).toList == (strOf (R i0)).toList) = true := by simp
  obtain ⟨bi, BI⟩ : ∃ x, Hid (ba i0 = x) := ⟨_, rfl⟩
  rw [BI.out] at x1 z2
  obtain ⟨sR, SR⟩ : ∃ x, Hid (strOf (R i0) = x) := ⟨_, rfl⟩
  rw [SR.out] at z1 z2 hqq
  have q1 : w10.drew.cell? ⟨gA, i0, none⟩ = some (.slice (some ⟨bi, 0, none⟩) 9 9) := x1
  have i1 : (0 : Int) ≤ (i0 : Int) := by omega
  have i2 : (i0 : Int) < (k : Int) + (r : Int) := by omega
  clear x1
  go_wp2_with fail
  go_region_held3 (fun w' => w'.cell? ⟨gA, i0, none⟩ = some (.slice (some ⟨bi, 0, none⟩) 9 9) ∧ (convert 22 9 (.slice (some ⟨bS, 0, none⟩) 9 9)).run Try.prog w' = .ok (.string sR) w' ∧ (convert 22 9 (.slice (some ⟨bi, 0, none⟩) 9 9)).run Try.prog w' = .ok (.string sR) w')
    (first | exact ⟨by assumption, by assumption, by assumption⟩ | go_keep) (fail)
  have H11 : Hid (CS w [F] w10.drew V gx cx gy cy c F k r pp pq sp sq a2 ∧ Elim w4 F gA (k + r) 9 ba R w10.drew) := ⟨H10.out.1.nxt H10.out.1.ls.drew, H10.out.2.1.drewN 1⟩
  have q1' : w10.drew.cell? ⟨gA, i0, none⟩ = some (.slice (some ⟨bi, 0, none⟩) 9 9) := q1
  clear z1 z2 q1 H10 hqq SR
  generalize w10.drew = w11 at *
  have HA2 : Hid (OwnV 22 w11.heap.size (w11.alloc (.cells #[] 22)) (.slice (some ⟨w11.heap.size, 0, none⟩) 0 0) []) := World.ownsRow_made w11 #[] 0 (Nat.le_refl _) (by unfold maxLen; omega) rfl
  have UA2 := hid ((Up.refl Nul w11).alloc (.cells #[] 22))
  have hlen : ([] ++ lnV (k + r) 9 ba : List Value).length = k + r := lnV_length _ _ _
  have HLEN := hid hlen
  have hlr : ([] ++ R i0 : List Nat).length = 9 := HRL.out i0
  have HLR := hid hlr
  have HBB : Hid (Blk w11 bi (R i0)) := by show Blk w11 bi _; rw [← BI.out]; exact H11.out.2.rows i0 hi0
  obtain ⟨x, X⟩ : ∃ x, Hid ((R i0).getD 3 0 = x) := ⟨_, rfl⟩
  have x8 : x < 256 := by rw [← X.out]; exact HRS.out i0 3
  have hxx : bits .xor .u8 (x : Int) 5 = ((x ^^^ 5 : Nat) : Int) := u8_xor_nat x 5 x8 (by omega)
  have j3 : (0 : Int) ≤ 3 := by omega
  clear hlen hlr
  go_wp2_with (first
    | (at_builtin; refine wpList_append_vals Try.underlying33 info_sl rfl (by omega) rfl (.tmp 116) (.tmp 117) rfl w11.heap.size _ [] rfl HA2.out ⟨gA, 0, none⟩ (k + r) cA (lnV (k + r) 9 ba) rfl (fun j u hj => (UA2.out.cell (by rw [add_block]; exact H11.out.2.gll) id).trans (H11.out.2.vals j u hj)) (lnV_one _ _ _) (lnV_length _ _ _) (by simp; omega) UA2.out.size ?_; intro v12 w12 G1 G2; have U12 := hid (UA2.out.grown G2.out fun q hq => HA2.out.base q hq); obtain ⟨gO, cO, rfl, o1, o2, o3, o4, o5⟩ := OwnV.row G1.out (by rw [HLEN.out]; omega); rw [HLEN.out] at o5 ⊢; have HO := hid (And.intro o1 (And.intro o2 (And.intro o3 (And.intro o4 o5)))); have p1 := (((Up.refl Nul w12).alloc (.cells #[] 5)).cell (p := ⟨gA, i0, none⟩) (Nat.lt_of_lt_of_le H11.out.2.gll U12.out.size) id).trans ((U12.out.cell (p := ⟨gA, i0, none⟩) H11.out.2.gll id).trans q1'); have HRB := hid (blk_row (HBB.out.up U12.out id)); have HBI := hid (HBB.out.up U12.out id).lt; clear o1 o2 o3 o4 o5)
    | (at_builtin; refine wpList_append_bytes rfl (.tmp 121) (.tmp 125) rfl w12.heap.size _ [] rfl (OwnB.fresh w12.heap.size w12 (Nat.le_refl _)) bi 0 9 9 (R i0) rfl (HRB.out.up ((Up.refl Nul w12).alloc _) HBI.out id) (HRL.out i0) (by simp) (by simp) ?_; intro v13 w13 G3 G4; have U13 : Hid (Up Nul w12 w13) := ((Up.refl Nul w12).alloc _).grown G4.out (fun q hq => (OwnB.fresh w12.heap.size w12 (Nat.le_refl _)).base q hq); obtain ⟨gn, cn, rfl, n1, n2, n3, n4, n5⟩ := G3.out.row (by rw [HLR.out]; omega); rw [HLR.out]; have HN := hid (And.intro n1 (And.intro n2 n3)); have s1 := (U13.out.cell (p := ⟨gO, i0, none⟩) HO.out.2.1 id).trans (HO.out.2.2.1 i0 _ (lnV_at hi0)); have f1 := (U13.out.froz (p := ⟨gO, i0, none⟩) HO.out.2.1 id).trans (HO.out.2.2.2.1 i0); have hne : gn ≠ gO := (by have := HO.out.2.1; omega); have t1 : (w13.setCell ⟨gO, i0, none⟩ (.slice (some ⟨gn, 0, none⟩) 9 cn)).cell? ⟨gO, i0, none⟩ = some (.slice (some ⟨gn, 0, none⟩) 9 cn) := World.cell?_setCell_same _ _ _ s1; have c3 := n3.cells 3 (by rw [HLR.out]; omega); have t2 : (w13.setCell ⟨gO, i0, none⟩ (.slice (some ⟨gn, 0, none⟩) 9 cn)).cell? ⟨gn, 3, none⟩ = some (.int .u8 x) := (by rw [← X.out]; exact (World.cell?_of_block (w := w13) (a := ⟨gn, 3, none⟩) (Below.heap_setCell _ _ _ _ hne)).trans c3); have t3 : (w13.setCell ⟨gO, i0, none⟩ (.slice (some ⟨gn, 0, none⟩) 9 cn)).frozen? ⟨gn, 3, none⟩ = false := (by rw [World.frozen?_setCell]; exact n4 3); clear n1 n2 n3 n4 n5 c3 hne))
  have uz : Up Nul w11 ((w13.setCell ⟨gO, i0, none⟩ (.slice (some ⟨gn, 0, none⟩) 9 cn)).setCell ⟨gn, 3, none⟩ (.int .u8 (x ^^^ 5 : Nat))) :=
    ((U12.out.trans U13.out).setCell (p := ⟨gO, i0, none⟩) (.inl HO.out.1) _).setCell (p := ⟨gn, 3, none⟩) (.inl (Nat.le_trans U12.out.size HN.out.1)) _
  have nz := H11.out.1.ls.nul uz
  have hne : gn ≠ gO := by have := HO.out.2.1; have := HN.out.1; omega
  have hrow : Row ((w13.setCell ⟨gO, i0, none⟩ (.slice (some ⟨gn, 0, none⟩) 9 cn)).setCell ⟨gn, 3, none⟩ (.int .u8 (x ^^^ 5 : Nat))) gn 0 ((R i0).set 3 (x ^^^ 5)) :=
    Row.put (y := R i0) (HN.out.2.2.up ((Up.refl (One gO) w13).setCell (p := ⟨gO, i0, none⟩) (.inr (show One gO gO from rfl)) _) HN.out.2.1 hne) (by rw [HRL.out]; omega) (GfM.xor_lt x8 (by omega))
  have hodd : LL [F] ((w13.setCell ⟨gO, i0, none⟩ (.slice (some ⟨gn, 0, none⟩) 9 cn)).setCell ⟨gn, 3, none⟩ (.int .u8 (x ^^^ 5 : Nat))) gO 0 (k + r) fun t => some (odd R i0 t) := by
    refine ⟨fun t ht => ?_, ?_, H11.out.1.ls.lt HO.out.1⟩
    · rw [Nat.zero_add]
      by_cases e : t = i0
      · subst e
        refine ⟨.slice (some ⟨gn, 0, none⟩) 9 cn, (World.cell?_of_block (w := w13.setCell ⟨gO, t, none⟩ (.slice (some ⟨gn, 0, none⟩) 9 cn)) (a := ⟨gO, t, none⟩) (Below.heap_setCell _ _ _ _ (fun e2 => hne e2.symm))).trans t1, gn, 0, cn, ?_, ?_⟩
        · rw [odd_length HRL.out]
        · unfold odd
          rw [if_pos rfl, X.out]
          exact ⟨hrow, by have := HN.out.2.1; simpa using this, H11.out.1.ls.lt (Nat.le_trans U12.out.size HN.out.1)⟩
      · refine ⟨.slice (some ⟨ba t, 0, none⟩) 9 9, ?_, ba t, 0, 9, ?_, ?_⟩
        · rw [World.cell?_of_block (w := w13.setCell ⟨gO, i0, none⟩ (.slice (some ⟨gn, 0, none⟩) 9 cn)) (a := ⟨gO, t, none⟩) (Below.heap_setCell _ _ _ _ (fun e2 => hne e2.symm)), World.cell?_setCell_other _ _ _ _ (by intro e2; have := congrArg Addr.off e2; simp at this; omega)]
          exact (U13.out.cell (p := ⟨gO, t, none⟩) HO.out.2.1 id).trans (HO.out.2.2.1 t _ (lnV_at ht))
        · rw [odd_length HRL.out]
        · rw [odd_else e]
          exact ⟨blk_row ((H11.out.2.rows t ht).up uz id), Nat.lt_of_lt_of_le (H11.out.2.lt ht) uz.size, L4.out.lt (H11.out.2.own t ht).1⟩
    · have := HO.out.2.1
      have := U13.out.size
      simp
      omega
  have H14 := hid (And.intro (H11.out.1.nxt nz) (And.intro hodd ((H11.out.2.ll L4.out).nxt nz)))
  have HCO := hid HO.out.2.2.2.2
  clear uz nz hne hrow hodd t1 t2 t3 s1 f1 p1 q1' HO HN U12 U13 HRB HBI G1 G2 G3 G4 HA2 UA2 HLEN HLR HBB H11
  generalize (w13.setCell ⟨gO, i0, none⟩ (.slice (some ⟨gn, 0, none⟩) 9 cn)).setCell ⟨gn, 3, none⟩ (.int .u8 (x ^^^ 5 : Nat)) = w14 at *
  have HOL : Hid (∀ t, (odd R i0 t).length = 9) := odd_length HRL.out
  obtain ⟨R2, HR2⟩ : ∃ Q, Hid (Q = odd R i0) := ⟨_, rfl⟩
  rw [← HR2.out] at H14 HOL
  refine (check_good [F] w w14 c F k r pp pq sp sq _ gO 0 (k + r) cO 9 R2 H14.out.1.ls H14.out.1.cd H14.out.2.1 rfl (fun t _ => HOL.out t) (by omega) HCO.out).mono ?_
  rintro e w15 ⟨⟨rfl, hall⟩ | ⟨rfl, _⟩, u15, f15⟩
  · obtain ⟨j, hj, hbad⟩ := odd_bad (k := k) (r := r) (i := i0) (Z := (coefZ k r (mdX a2 k) (mdY a2 k r))) HRL.out HRS.out HRC.out hi0 r1 (fun q j hq hj => md_pos hq hj hkr18)
    rw [← HR2.out] at hbad
    exact absurd (hall j hj) hbad
  have n15 := H14.out.1.ls.one HFM.out u15 f15
  have H15 := hid (And.intro (H14.out.1.nxt n15) (And.intro (H14.out.2.1.nxt n15) (H14.out.2.2.nxt n15)))
  clear n15 u15 f15 H14
  have htl : Tl (fun t => some (R2 t)) (k + r) = List.range (k + r) := Tl_all fun _ _ => rfl
  have hk2 : k ≤ (Tl (fun t => some (R2 t)) (k + r)).length := by rw [htl, List.length_range]; omega
  obtain ⟨M2, hM2⟩ := HREG.out _ hk2
  go_wp2_with fail
  refine (decode_good [F] w w15 c F k r pp pq sp sq _ gO 0 (k + r) cO 9 (fun t => some (R2 t)) M2 H15.out.1.ls H15.out.1.cd H15.out.2.1 rfl (fine_all HOL.out) (by omega) hk2 hM2).mono ?_
  rintro e w16 ⟨gl, cl, bl, rfl, le, lf⟩
  have n16 := H15.out.1.ls.one HFM.out le.up lf
  have H16 := hid (And.intro (H15.out.1.nxt n16) (And.intro (H15.out.2.1.nxt n16) (And.intro (H15.out.2.2.nxt n16) ((le.congr fun t ht => dec_there ht rfl).ll H15.out.1.ls))))
  clear n16 le lf H15 htl hk2 hM2
  go_wp2_with fail
  refine (reb_any [F] w w16 c F k r pp pq sp sq _ gO 0 (k + r) cO 9 i0 (fun t => some (R2 t)) H16.out.1.ls H16.out.1.cd H16.out.2.1 rfl (fine_all HOL.out) (by omega) hi0 (HREG.out _)).mono ?_
  rintro e w17 ⟨⟨hlost, rfl⟩ | ⟨M, bT, hM, rfl, hbT, _, hbw⟩, u17, f17⟩
  · rw [Tl_out1 (fun _ => rfl), if_pos hi0] at hlost
    omega
  have hdec : decZ k r 9 (coefZ k r (mdX a2 k) (mdY a2 k r)) (out1 (fun t => some (R2 t)) i0) M i0 = R i0 := by
    have h := dec_right (D := D) stack_small (fun i _ => HLD.out i) HSD.out (by rw [Tl_out1 (fun _ => rfl), if_pos hi0]; omega) (fun t ht z e => by
      unfold out1 at e
      split at e
      · cases e
      · next hne =>
        cases e
        rw [HR2.out, odd_else hne, HR.out]) hM hi0
    rw [h, HR.out]
  rw [hdec] at hbT
  have n17 := H16.out.1.ls.one HFM.out u17 f17
  have nd := (H16.out.1.ls.nxt n17).drew
  have nn := n17.trans nd
  have HD : Hid (CS w [F] w17.drew V gx cx gy cy c F k r pp pq sp sq a2 ∧ (LL [F] w17.drew gl 0 (k + r) fun t => some (R2 t)) ∧ (LL [F] w17.drew gO 0 (k + r) fun t => some (R2 t)) ∧ Blk w17.drew bT (R i0)) := ⟨H16.out.1.nxt nn, H16.out.2.2.2.nxt nn, H16.out.2.1.nxt nn, hbT.drew⟩
  obtain ⟨bi2, oi, ci, xi, ri⟩ := (H16.out.2.2.1.nxt nn).at hi0 rfl
  rw [HRL.out, Nat.zero_add] at xi
  have HRI := hid ri
  have HCX := hid (And.intro xi (lt_of_cell xi))
  clear nn nd n17 hbT hdec u17 f17 hbw hM H16
  have z1 := conv_row (cap := 9) (blk_row HD.out.2.2.2) (HRL.out i0)
  have z2 := conv_row (cap := ci) HRI.out.row (HRL.out i0)
  have C1 := fun (W : World) (h : Up Nul w17.drew W) => hid (conv_row (cap := 9) (blk_row (HD.out.2.2.2.up h id)) (HRL.out i0))
  have C2 := fun (W : World) (h : Up Nul w17.drew W) => hid (conv_row (cap := ci) (HRI.out.row.up h HRI.out.lt id) (HRL.out i0))
  have hqq : ((strOf (R i0)).toList == (strOf (R i0)).toList) = true := by simp
  obtain ⟨sR, SR⟩ : ∃ x, Hid (strOf (R i0) = x) := ⟨_, rfl⟩
  rw [SR.out] at z1 z2 hqq C1 C2
  have CC1 := hid C1
  have CC2 := hid C2
  have q1 : w17.drew.cell? ⟨gA, i0, none⟩ = some (.slice (some ⟨bi2, oi, none⟩) 9 ci) := xi
  have hkr1 : 1 ≤ k + r := by omega
  have hkr100 : k + r ≤ 100 := by omega
  have hi2 : (i0 : Int) < (k : Int) + (r : Int) := by omega
  clear xi ri C1 C2
  go_wp2_with fail
  go_region_held3 (fun w' => w'.cell? ⟨gA, i0, none⟩ = some (.slice (some ⟨bi2, oi, none⟩) 9 ci) ∧ (convert 22 9 (.slice (some ⟨bT, 0, none⟩) 9 9)).run Try.prog w' = .ok (.string sR) w' ∧ (convert 22 9 (.slice (some ⟨bi2, oi, none⟩) 9 ci)).run Try.prog w' = .ok (.string sR) w')
    (first | exact ⟨by assumption, by assumption, by assumption⟩ | go_keep)
    ((first
      | (go_at_call 18; (with_reducible refine (stringsL HD.out.1.ls HD.out.2.1 hkr1 hkr100).mono ?_); rintro e w18 ⟨g18, c18, rfl, st18, u18⟩; have H18 := hid (And.intro u18 st18); have v1 := (u18.cell (p := ⟨gA, i0, none⟩) HCX.out.2 id).trans q1; have v2 := (CC1.out _ u18).out; have v3 := (CC2.out _ u18).out; clear u18 st18)
      | (go_at_call 18; (with_reducible refine (stringsL (HD.out.1.ls.nxt (HD.out.1.ls.nul H18.out.1)) (HD.out.2.2.1.nxt (HD.out.1.ls.nul H18.out.1)) hkr1 hkr100).mono ?_); rintro e w19 ⟨g19, c19, rfl, st19, u19⟩; have H19 := hid (And.intro (H18.out.1.trans u19) (And.intro (H18.out.2.up u19) st19)); have v4 := (H19.out.1.cell (p := ⟨gA, i0, none⟩) HCX.out.2 id).trans q1; have v5 := (CC1.out _ H19.out.1).out; have v6 := (CC2.out _ H19.out.1).out; clear u19 st19)
      | (go_at_call 17; (with_reducible refine (same_yes _ _ _ _ _ _ _ H19.out.2.1 H19.out.2.2 hkr100).mono ?_); rintro e w20 ⟨rfl, u20⟩; have H20 := hid (H19.out.1.trans u20); have v7 := (H20.out.cell (p := ⟨gA, i0, none⟩) HCX.out.2 id).trans q1; have v8 := (CC1.out _ H20.out).out; have v9 := (CC2.out _ H20.out).out; clear u20)
      | (go_at_call 8; (with_reducible refine (awake_any _).mono ?_); rintro e w21 ⟨rfl, u21⟩; have H21 := hid (H20.out.trans u21); have va := (H21.out.cell (p := ⟨gA, i0, none⟩) HCX.out.2 id).trans q1; have vb := (CC1.out _ H21.out).out; have vc := (CC2.out _ H21.out).out; clear u21)))
  go_wp2
  go_ret
  exact ⟨rfl, (HD.out.1.ls.nxt (HD.out.1.ls.nul H21.out)).below⟩
theorem whole_walk (a0 a1 a2 : Int) (a3 : Option Addr) (len3 cap3 : Nat) (z3 : List Int) (a4 : Int) (w : World) (w3 : CameIn w a3 len3 cap3 z3) :
    Calls Try.prog 3 #[.int .i64 a0, .int .i64 a1, .int .i64 a2, .slice a3 len3 cap3, .int .i64 a4] w fun e w' => e = .returned (.bool true) ∧ Below w.heap.size w w' := by
  by_cases h : 500 < len3
  · exact whole_long a0 a1 a2 a4 a3 len3 cap3 w h
  · obtain ⟨za, hza⟩ := SlN.of w3
    exact whole_short a0 a1 a2 a4 a3 len3 cap3 za w (by omega) hza
end Go.Proofs.Ytcmcejgjajfkbaa
