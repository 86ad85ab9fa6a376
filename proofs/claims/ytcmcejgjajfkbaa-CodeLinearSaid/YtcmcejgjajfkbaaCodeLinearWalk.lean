/- The law CodeLinear, walked. -/
import Derived.Test.YtcmcejgjajfkbaaCodeTurn
namespace Go.Proofs.Ytcmcejgjajfkbaa
open Go.RowKit
set_option linter.unusedVariables false

/-- The sums told so far. -/
def TS (k q j : Nat) (A B R : Nat → List Nat) : Prop := ∀ i, i < k → ∀ u, u < 8 → (R i).getD u 0 = if i < q ∨ (i = q ∧ u < j) then (A i).getD u 0 ^^^ (B i).getD u 0 else (A i).getD u 0
theorem TS.next {k q j v : Nat} {A B R : Nat → List Nat} (h : TS k q j A B R) (hq : q < k) (hj : j < 8) (hl : (R q).length = 8) (hv : (A q).getD j 0 ^^^ (B q).getD j 0 = v) : TS k q (j + 1) A B (updL R q ((R q).set j v)) := by
  intro i hi u hu
  unfold updL
  by_cases e : i = q
  · subst e
    rw [if_pos rfl, getD_set _ _ _ _ (by rw [hl]; exact hj)]
    by_cases e2 : u = j
    · rw [if_pos e2, if_pos (.inr ⟨rfl, by omega⟩), ← hv, e2]
    · rw [if_neg e2, h i hi u hu]
      by_cases e3 : u < j
      · rw [if_pos (.inr ⟨rfl, e3⟩), if_pos (.inr ⟨rfl, by omega⟩)]
      · rw [if_neg (by omega), if_neg (by omega)]
  · rw [if_neg e, h i hi u hu]
    by_cases e3 : i < q
    · rw [if_pos (.inl e3), if_pos (.inl e3)]
    · rw [if_neg (by omega), if_neg (by omega)]
theorem TS.line {k q : Nat} {A B R : Nat → List Nat} (h : TS k q 8 A B R) : TS k (q + 1) 0 A B R := by
  intro i hi u hu
  rw [h i hi u hu]
  by_cases e3 : i < q ∨ (i = q ∧ u < 8)
  · rw [if_pos e3, if_pos (by omega)]
  · rw [if_neg e3, if_neg (by omega)]

set_option maxRecDepth 100000 in
theorem linear_long (a0 a1 a2 a5 a6 : Int) (a b : Option Addr) (n cap m cm : Nat) (w : World) (h : 300 < n ∨ 300 < m) :
    Calls Try.prog 7 #[.int .i64 a0, .int .i64 a1, .int .i64 a2, .slice a n cap, .slice b m cm, .int .i64 a5, .int .u8 a6] w fun e w' => e = .returned (.bool true) ∧ Below w.heap.size w w' := by
  by_cases h1 : 300 < n
  · clear h
    go_enter Try.func7, Try.ntmps7
    go_wp2_with ((go_at_call 8; (with_reducible refine (awakeL (LS.start w)).mono ?_); rintro e w1 ⟨rfl, k1⟩; have K := hid ((LS.start w).nxt k1); clear k1))
    go_ret
    exact ⟨rfl, K.out.below⟩
  · have h3 : 300 < m := by omega
    clear h
    go_enter Try.func7, Try.ntmps7
    go_wp2_with ((go_at_call 8; (with_reducible refine (awakeL (LS.start w)).mono ?_); rintro e w1 ⟨rfl, k1⟩; have K := hid ((LS.start w).nxt k1); clear k1))
    go_ret
    exact ⟨rfl, K.out.below⟩

set_option maxRecDepth 100000 in
set_option maxHeartbeats 6400000 in
theorem linear_short (a0 a1 a2 a5 : Int) (by_ : Nat) (a b : Option Addr) (n cap m cm : Nat) (za zb : List Nat) (w : World) (hn : n ≤ 300) (hm : m ≤ 300) (hza : SlN w a n za) (hzb : SlN w b m zb) (h8 : by_ < 256) :
    Calls Try.prog 7 #[.int .i64 a0, .int .i64 a1, .int .i64 a2, .slice a n cap, .slice b m cm, .int .i64 a5, .int .u8 by_] w fun e w' => e = .returned (.bool true) ∧ Below w.heap.size w w' := by
  have HZ := hid (And.intro hza hzb)
  clear hza hzb
  obtain ⟨y, k, hk1, hk2, hk3, k1, k14, hy⟩ := md_k a0
  obtain ⟨r, hr, r1, r4⟩ := i64_and3 a1
  have HK := hid (And.intro hk1 (And.intro hk2 (And.intro hk3 (And.intro hy hr))))
  clear hk1 hk2 hk3 hy hr
  go_enter Try.func7, Try.ntmps7
  go_wp2_with fail
  refine (madeL (LS.start w) HK.out.1 HK.out.2.1 HK.out.2.2.1 k1 k14 HK.out.2.2.2.1 HK.out.2.2.2.2 r1 r4).mono ?_
  rintro e w1 ⟨gx, cx, gy, cy, rfl, rx, ry, n1⟩
  have hl := (LS.start w).nxt n1
  have H1 := hid (And.intro (hl.nxt (hl.alloc (.cells #[.slice (some ⟨gx, 0, none⟩) k cx, .slice (some ⟨gy, 0, none⟩) r cy] 25))) (LC.new (k := k) (r := r) (cx := cx) (cy := cy) hl rx ry 25))
  clear hl rx ry n1
  go_wp2_with fail
  generalize (w1.alloc (.cells #[.slice (some ⟨gx, 0, none⟩) k cx, .slice (some ⟨gy, 0, none⟩) r cy] 25)) = w2 at *
  generalize w1.heap.size = V at *
  have HD : Hid (LS w [] w2.drew ∧ LC [] w2.drew V gx cx gy cy k r (mdX a2 k) (mdY a2 k r)) := ⟨H1.out.1.nxt H1.out.1.drew, H1.out.2.nxt H1.out.1.drew⟩
  have s1 : w2.cell? ⟨V, 0, none⟩ = some (.slice (some ⟨gx, 0, none⟩) k cx) := H1.out.2.c0
  have s2 : w2.cell? ⟨V, 1, none⟩ = some (.slice (some ⟨gy, 0, none⟩) r cy) := H1.out.2.c1
  go_region_held3 (fun w' => w'.cell? ⟨V, 0, none⟩ = some (.slice (some ⟨gx, 0, none⟩) k cx) ∧ w'.cell? ⟨V, 1, none⟩ = some (.slice (some ⟨gy, 0, none⟩) r cy)) (first | exact ⟨by assumption, by assumption⟩ | go_keep)
    ((first
      | (go_at_call 11; (with_reducible refine (gfNewF _).mono ?_); rintro e w3 ⟨F, rfl, n3⟩; have H3 := hid (And.intro (HD.out.1.newF n3) (HD.out.2.newF n3)); have t1 := H3.out.2.c0; have t2 := H3.out.2.c1; clear n3)
      | (go_at_call 10; (with_reducible refine (codeL H3.out.1 (List.mem_cons_self ..) H3.out.2 k1 k14 r1 r4).mono ?_); rintro e w4 ⟨c, pp, pq, sp, sq, rfl, cs, n4⟩; have H4 := hid cs; have t3 := H4.out.lc.c0; have t4 := H4.out.lc.c1; clear cs n4)))
  clear s1 s2 t1 t2 t3 t4 H1 H3 HD
  go_wp2_with fail
  have HD : Hid (CS w [F] w4.drew V gx cx gy cy c F k r pp pq sp sq a2) := H4.out.nxt H4.out.ls.drew
  have s1 := H4.out.lc.c0
  have HFM : Hid (F ∈ [F]) := List.mem_cons_self ..
  go_region_held3 (fun w' => w'.cell? ⟨V, 0, none⟩ = some (.slice (some ⟨gx, 0, none⟩) k cx)) (first | assumption | go_keep)
    ((first
      | (go_at_call 12; (with_reducible refine (dataL8 HD.out.ls HFM.out HZ.out.1 k1 k14).mono ?_); rintro e w5 ⟨g1, c1, b1, rfl, e1, _, u1⟩; have H5 := hid (And.intro (HD.out.nxt (HD.out.ls.nul u1)) e1); have s2 := H5.out.1.lc.c0; clear u1 e1)
      | (go_at_call 12; (with_reducible refine (dataL8 H5.out.1.ls HFM.out HZ.out.2 k1 k14).mono ?_); rintro e w6 ⟨g2, c2, b2, rfl, e2, _, u2⟩; have H6 := hid (And.intro (H5.out.1.nxt (H5.out.1.ls.nul u2)) (And.intro (H5.out.2.nul u2) e2)); have s3 := H6.out.1.lc.c0; clear u2 e2)))
  have L4 := hid HD.out.ls
  have L5 := hid H5.out.1.ls
  have L6 := hid H6.out.1.ls
  have B4 : Hid (w4.heap.size ≤ w4.drew.heap.size) := Nat.le_refl _
  clear s1 s2 H5
  go_wp2_with fail
  refine (dataL8 H6.out.1.ls HFM.out HZ.out.1 k1 k14).mono ?_
  rintro e w7 ⟨g3, c3, b3, rfl, e3, _, u3⟩
  have H7 := hid (And.intro e3 u3)
  clear s3 e3 u3
  go_wp2_with fail
  go_loopw [21] (fun i wr => ∃ q : Nat, q ≤ k ∧ i = .int .i64 q ∧ ∃ R, Elim w6 F g3 k 8 b3 R wr ∧ Up Nul w6 wr ∧ TS k q 0 (dat 8 za) (dat 8 zb) R) (fun i _ => k - (intOf i).toNat)
  case atStart => exact ⟨0, by omega, rfl, _, H7.out.1, H7.out.2, fun i hi u hu => by rw [if_neg (by omega)]⟩
  case round =>
    clear H7
    obtain ⟨q, hq, rfl, R, he, hu, ht⟩ := hrel
    have H7 := hid (And.intro he (And.intro hu ht))
    clear he hu ht
    by_cases hlt : q < k
    · go_wp2_with fail
      go_loopw [22] (fun i wr => ∃ j : Nat, j ≤ 8 ∧ i = .int .i64 j ∧ ∃ R, Elim w6 F g3 k 8 b3 R wr ∧ Up Nul w6 wr ∧ TS k q j (dat 8 za) (dat 8 zb) R) (fun i _ => 8 - (intOf i).toNat)
      case atStart => exact ⟨0, by omega, rfl, _, H7.out⟩
      case round =>
        clear H7 R
        obtain ⟨j, hj, rfl, R, he, hu, ht⟩ := hrel
        have H7 := hid (And.intro he (And.intro hu ht))
        clear he hu ht
        by_cases hlt2 : j < 8
        · have x1 := H7.out.1.lin q hlt
          have x2 := (H7.out.1.rows q hlt).cell j (by rw [H7.out.1.lens q hlt]; exact hlt2)
          have f2 := (H7.out.1.rows q hlt).froz j
          have HEY := hid (H6.out.2.2.nul H7.out.2.1)
          have y1 := HEY.out.lin q hlt
          have y2 := (HEY.out.rows q hlt).cell j (by rw [HEY.out.lens q hlt]; exact hlt2)
          rw [H7.out.2.2 q hlt j hlt2, if_neg (by omega)] at x2
          have hx8 := dat_small (L := 8) (fun i => HZ.out.1.small i) q j
          have hy8 := dat_small (L := 8) (fun i => HZ.out.2.small i) q j
          obtain ⟨xv, XV⟩ : ∃ x, Hid ((dat 8 za q).getD j 0 = x) := ⟨_, rfl⟩
          obtain ⟨yv, YV⟩ : ∃ x, Hid ((dat 8 zb q).getD j 0 = x) := ⟨_, rfl⟩
          rw [XV.out] at x2 hx8
          rw [YV.out] at y2 hy8
          have hxx := u8_xor_nat xv yv hx8 hy8
          have HB3 := hid (H7.out.1.own q hlt).1
          obtain ⟨bz, BZ⟩ : ∃ x, Hid (b3 q = x) := ⟨_, rfl⟩
          obtain ⟨byy, BY⟩ : ∃ x, Hid (b2 q = x) := ⟨_, rfl⟩
          rw [BZ.out] at x1 x2 f2 HB3
          rw [BY.out] at y1 y2
          have i1 : (0 : Int) ≤ (q : Int) := by omega
          have i2 : (q : Int) < (k : Int) := by omega
          have i3 : (0 : Int) ≤ (j : Int) := by omega
          have i4 : (j : Int) < (8 : Int) := by omega
          go_wp2_with fail
          go_region
          go_wp2
          have hel := H7.out.1.put hlt j (xv ^^^ yv) (GfM.xor_lt hx8 hy8)
          rw [BZ.out] at hel
          go_roundw
          case rel => exact ⟨j + 1, by omega, by go_num, _, hel.drewN 1, (H7.out.2.1.setCell (p := ⟨bz, j, none⟩) (.inl HB3.out) _).drew, H7.out.2.2.next hlt hlt2 (H7.out.1.lens q hlt) (by rw [XV.out, YV.out])⟩
          case measure => simp [intOf]; omega
        · obtain rfl : j = 8 := by omega
          go_wp2
          go_roundw
          case rel => exact ⟨q + 1, by omega, by go_num, _, H7.out.1, H7.out.2.1, H7.out.2.2.line⟩
          case measure => simp [intOf]; omega
    · obtain rfl : k = q := by omega
      have hzr := H7.out.1.congr (M := fun i => tab 8 fun u => (dat 8 za i).getD u 0 ^^^ (dat 8 zb i).getD u 0) fun i hi => eq_tab (H7.out.1.lens i hi) fun u hu => by rw [H7.out.2.2 i hi u hu, if_pos (.inl hi)]
      have nz := H6.out.1.ls.nul H7.out.2.1
      have H8 := hid (And.intro (H6.out.1.nxt nz) (And.intro (H6.out.2.1.nul H7.out.2.1) (And.intro (H6.out.2.2.nul H7.out.2.1) hzr)))
      have HU8 := hid H7.out.2.1
      have HSX : Hid (∀ i u, (dat 8 za i).getD u 0 < 256) := dat_small fun i => HZ.out.1.small i
      have HSY : Hid (∀ i u, (dat 8 zb i).getD u 0 < 256) := dat_small fun i => HZ.out.2.small i
      have HF4 := hid (L4.out.fld F HFM.out).lt
      have HF5 := hid (L5.out.fld F HFM.out).lt
      have HF6 := hid (L6.out.fld F HFM.out).lt
      have HF8 := hid (H8.out.1.ls.fld F HFM.out).lt
      clear hzr nz H7 H6
      go_wp2_with fail
      refine (encL H8.out.1.ls H8.out.1.cd (H8.out.2.1.ll L4.out) (fun i _ => dat_length _ _ _) (by omega)).mono ?_
      rintro e w8 ⟨gp, bp, rfl, pe, pn, pu⟩
      have H9 := hid (And.intro (H8.out.1.nxt pn) (And.intro (H8.out.2.1.fld HF4.out pu) (And.intro (H8.out.2.2.1.fld HF5.out pu) (And.intro (H8.out.2.2.2.fld HF6.out pu) pe))))
      have L8 := hid H8.out.1.ls
      clear pe pn pu
      go_wp2_with fail
      refine (encL H9.out.1.ls H9.out.1.cd (H9.out.2.2.1.ll L5.out) (fun i _ => dat_length _ _ _) (by omega)).mono ?_
      rintro e w9 ⟨gq, bq, rfl, qe, qn, qu⟩
      have H10 := hid (And.intro (H9.out.1.nxt qn) (And.intro (H9.out.2.1.fld HF4.out qu) (And.intro (H9.out.2.2.2.1.fld HF6.out qu) (And.intro (H9.out.2.2.2.2.fld HF8.out qu) qe))))
      have HF9 := hid (H9.out.1.ls.fld F HFM.out).lt
      clear qe qn qu
      go_wp2_with fail
      refine (encL H10.out.1.ls H10.out.1.cd (H10.out.2.2.1.ll L6.out) (fun i _ => tab_length _ _) (by omega)).mono ?_
      rintro e w10 ⟨gs, bs, rfl, se, sn, su⟩
      have H11 := hid (And.intro (H10.out.1.nxt sn) (And.intro (H10.out.2.1.fld HF4.out su) (And.intro (H10.out.2.2.2.1.fld HF8.out su) (And.intro (H10.out.2.2.2.2.fld HF9.out su) se))))
      have x1 := H11.out.1.lc.c1
      have HB8 : Hid (∀ i, i < k → b1 i < wr.heap.size) := fun i hi => H8.out.2.1.lt hi
      clear se sn su H8 H9 H10
      go_wp2_with fail
      clear x1
      go_loopw [29] (fun i wr => ∃ j : Nat, j ≤ r ∧ i = .int .i64 j ∧ Up Nul w10 wr) (fun i _ => r - (intOf i).toNat)
      case atStart => exact ⟨0, by omega, rfl, Up.refl _ _⟩
      case round =>
        obtain ⟨j, hj, rfl, hu⟩ := hrel
        have HU := hid hu
        clear hu
        by_cases hlt3 : j < r
        · have PE := hid (H11.out.2.2.1.nul HU.out)
          have QE := hid (H11.out.2.2.2.1.nul HU.out)
          have SE := hid (H11.out.2.2.2.2.nul HU.out)
          have x1 := PE.out.lin j hlt3
          have x2 := QE.out.lin j hlt3
          have x3 := SE.out.lin j hlt3
          have HXX : Hid (tab 8 (fun u => (acrZ k 8 (coefZ k r (mdX a2 k) (mdY a2 k r)) (dat 8 za) j).getD u 0 ^^^ (acrZ k 8 (coefZ k r (mdX a2 k) (mdY a2 k r)) (dat 8 zb) j).getD u 0) = acrZ k 8 (coefZ k r (mdX a2 k) (mdY a2 k r)) (fun i => tab 8 fun u => (dat 8 za i).getD u 0 ^^^ (dat 8 zb i).getD u 0) j) := (acr_xor HSX.out HSY.out).symm
          have sm1 := acrZ_small k 8 (coefZ k r (mdX a2 k) (mdY a2 k r)) (dat 8 za) j
          have sm2 := acrZ_small k 8 (coefZ k r (mdX a2 k) (mdY a2 k r)) (dat 8 zb) j
          have rw1 := fun (W : World) (h : Blk W (bp j) (acrZ k 8 (coefZ k r (mdX a2 k) (mdY a2 k r)) (dat 8 za) j)) => conv_row (cap := 8) (blk_row h) (acrZ_length _ _ _ _ _)
          have rw2 := fun (W : World) (h : Blk W (bq j) (acrZ k 8 (coefZ k r (mdX a2 k) (mdY a2 k r)) (dat 8 zb) j)) => conv_row (cap := 8) (blk_row h) (acrZ_length _ _ _ _ _)
          have rw3 := fun (W : World) (h : Blk W (bs j) (acrZ k 8 (coefZ k r (mdX a2 k) (mdY a2 k r)) (fun i => tab 8 fun u => (dat 8 za i).getD u 0 ^^^ (dat 8 zb i).getD u 0) j)) => conv_row (cap := 8) (blk_row h) (acrZ_length _ _ _ _ _)
          have hb1 := hid (PE.out.rows j hlt3)
          have hb2 := hid (QE.out.rows j hlt3)
          have hb3 := hid (SE.out.rows j hlt3)
          have len1 : (strOf (acrZ k 8 (coefZ k r (mdX a2 k) (mdY a2 k r)) (dat 8 za) j)).size = 8 := by rw [strOf_size, acrZ_length]
          have len2 : (strOf (acrZ k 8 (coefZ k r (mdX a2 k) (mdY a2 k r)) (dat 8 zb) j)).size = 8 := by rw [strOf_size, acrZ_length]
          have HXO := hid fun (W : World) => xor_any (strOf (acrZ k 8 (coefZ k r (mdX a2 k) (mdY a2 k r)) (dat 8 za) j)) (strOf (acrZ k 8 (coefZ k r (mdX a2 k) (mdY a2 k r)) (dat 8 zb) j)) 8 W len1 len2 (by omega)
          rw [nums_row sm1, nums_row sm2, HXX.out] at HXO
          have PL := hid (And.intro (lt_of_cell x1) (And.intro (lt_of_cell x2) (And.intro (lt_of_cell x3) (And.intro hb1.out.lt (And.intro hb2.out.lt hb3.out.lt)))))
          generalize acrZ k 8 (coefZ k r (mdX a2 k) (mdY a2 k r)) (fun i => tab 8 fun u => (dat 8 za i).getD u 0 ^^^ (dat 8 zb i).getD u 0) j = A3 at *
          generalize acrZ k 8 (coefZ k r (mdX a2 k) (mdY a2 k r)) (dat 8 za) j = A1 at *
          generalize acrZ k 8 (coefZ k r (mdX a2 k) (mdY a2 k r)) (dat 8 zb) j = A2 at *
          obtain ⟨p1, P1⟩ : ∃ x, Hid (bp j = x) := ⟨_, rfl⟩
          obtain ⟨p2, P2⟩ : ∃ x, Hid (bq j = x) := ⟨_, rfl⟩
          obtain ⟨p3, P3⟩ : ∃ x, Hid (bs j = x) := ⟨_, rfl⟩
          rw [P1.out] at x1 hb1 rw1 PL
          rw [P2.out] at x2 hb2 rw2 PL
          rw [P3.out] at x3 hb3 rw3 PL
          have z1 := rw1 _ hb1.out.drew
          have z2 := rw2 _ hb2.out.drew
          have z3 := rw3 _ hb3.out.drew
          have RW1 := hid rw1
          have RW2 := hid rw2
          have RW3 := hid rw3
          have q1 : wr.drew.cell? ⟨gp, j, none⟩ = some (.slice (some ⟨p1, 0, none⟩) 8 8) := x1
          have q2 : wr.drew.cell? ⟨gq, j, none⟩ = some (.slice (some ⟨p2, 0, none⟩) 8 8) := x2
          have q3 : wr.drew.cell? ⟨gs, j, none⟩ = some (.slice (some ⟨p3, 0, none⟩) 8 8) := x3
          have i1 : (0 : Int) ≤ (j : Int) := by omega
          have i2 : (j : Int) < (r : Int) := by omega
          have hqq : ((strOf A3).toList == (strOf A3).toList) = true := by simp
          clear x1 x2 x3 sm1 sm2 rw1 rw2 rw3 len1 len2 HXX
          go_wp2_with fail
          go_region_held3 (fun w' => w'.cell? ⟨gp, j, none⟩ = some (.slice (some ⟨p1, 0, none⟩) 8 8) ∧ w'.cell? ⟨gq, j, none⟩ = some (.slice (some ⟨p2, 0, none⟩) 8 8) ∧ w'.cell? ⟨gs, j, none⟩ = some (.slice (some ⟨p3, 0, none⟩) 8 8) ∧
              (convert 22 9 (.slice (some ⟨p1, 0, none⟩) 8 8)).run Try.prog w' = .ok (.string (strOf A1)) w' ∧ (convert 22 9 (.slice (some ⟨p2, 0, none⟩) 8 8)).run Try.prog w' = .ok (.string (strOf A2)) w' ∧ (convert 22 9 (.slice (some ⟨p3, 0, none⟩) 8 8)).run Try.prog w' = .ok (.string (strOf A3)) w')
            (first | exact ⟨by assumption, by assumption, by assumption, by assumption, by assumption, by assumption⟩ | go_keep)
            ((go_at_call 25; (with_reducible refine (HXO.out _).mono ?_); rintro e w11 ⟨rfl, u11⟩; have v1 := (u11.cell (p := ⟨gp, j, none⟩) PL.out.1 id).trans q1; have v2 := (u11.cell (p := ⟨gq, j, none⟩) PL.out.2.1 id).trans q2; have v3 := (u11.cell (p := ⟨gs, j, none⟩) PL.out.2.2.1 id).trans q3; have v4 := RW1.out _ (hb1.out.drew.up u11 id); have v5 := RW2.out _ (hb2.out.drew.up u11 id); have v6 := RW3.out _ (hb3.out.drew.up u11 id); have HU2 := hid (HU.out.drew.trans u11); clear u11))
          go_wp2
          go_roundw
          case rel => exact ⟨j + 1, by omega, by go_num, HU2.out⟩
          case measure => simp [intOf]; omega
        · obtain rfl : r = j := by omega
          have N11 := hid (H11.out.1.ls.nul HU.out)
          have H12 := hid (And.intro (H11.out.1.nxt N11.out) (And.intro (H11.out.2.1.nul HU.out) (H11.out.2.2.1.nul HU.out)))
          clear HU N11 H11 hj
          go_upto_if 176 with fail
          go_cut [6] (fun s6 wx => (∃ v : Nat, s6 = .int .u8 v ∧ v ≠ 0 ∧ v < 256) ∧ wr = wx)
          case first =>
            by_cases hb0 : by_ = 0
            · have e : ((by_ : Int) == 0) = true := by simp [hb0]
              go_wp2_with fail
              go_meet
              case rel => exact ⟨⟨1, rfl, by omega, by omega⟩, rfl⟩
            · have e : ((by_ : Int) == 0) = false := by simpa using hb0
              go_wp2_with fail
              go_meet
              case rel => exact ⟨⟨by_, rfl, hb0, h8⟩, rfl⟩
          case rest =>
            obtain ⟨⟨v, rfl, v0, v8⟩, rfl⟩ := hcut
            obtain ⟨yy, q0, hy1, hy2, hy3, hq0⟩ : ∃ yy q0 : Nat, bits .and .i64 a5 65535 = (yy : Int) ∧ (yy : Int).tmod (k : Int) = (q0 : Int) ∧ (yy : Int) % (k : Int) = (q0 : Int) ∧ q0 < k := by
              rw [i64_mask 16 (by omega) a5 65535 (by decide)]
              obtain ⟨yy, e⟩ := Int.eq_ofNat_of_zero_le (show 0 ≤ a5 % ((2 ^ 16 : Nat) : Int) by omega)
              refine ⟨yy, yy % k, e, ?_, ?_, Nat.mod_lt _ (by omega)⟩
              · rw [Int.tmod_eq_emod_of_nonneg (by omega)]
                simp
              · simp
            obtain ⟨u0, hu0, hu8⟩ : ∃ u0 : Nat, bits .and .i64 (a5 / 65536) 7 = (u0 : Int) ∧ u0 < 8 := by
              rw [i64_mask 3 (by omega) _ 7 (by decide)]
              obtain ⟨u0, e⟩ := Int.eq_ofNat_of_zero_le (show 0 ≤ (a5 / 65536) % ((2 ^ 3 : Nat) : Int) by omega)
              exact ⟨u0, e, by omega⟩
            have hk0 : ((k : Int) == 0) = false := by simp; omega
            have x1 := H12.out.2.1.lin q0 hq0
            have x2 := (H12.out.2.1.rows q0 hq0).cell u0 (by rw [H12.out.2.1.lens q0 hq0]; exact hu8)
            have f2 := (H12.out.2.1.rows q0 hq0).froz u0
            have hx8 := HSX.out q0 u0
            obtain ⟨xv, XV⟩ : ∃ x, Hid ((dat 8 za q0).getD u0 0 = x) := ⟨_, rfl⟩
            rw [XV.out] at x2 hx8
            have hxx := u8_xor_nat xv v hx8 v8
            have hel := H12.out.2.1.put hq0 u0 (xv ^^^ v) (GfM.xor_lt hx8 v8)
            have hw := (H12.out.2.1.own q0 hq0).1
            have hfw := (H12.out.1.ls.fld F HFM.out)
            have hF4 := HF4.out
            have hus : Up (One (b1 q0)) wr (wr.setCell ⟨b1 q0, u0, none⟩ (.int .u8 (xv ^^^ v : Nat))) := (Up.refl _ _).setCell (p := ⟨b1 q0, u0, none⟩) (.inr (show One (b1 q0) (b1 q0) from rfl)) _
            have hfs := hfw.up hus (by unfold One; omega)
            have hpe : LL [F] (wr.setCell ⟨b1 q0, u0, none⟩ (.int .u8 (xv ^^^ v : Nat))) gp 0 r (fun j => some (acrZ k 8 (coefZ k r (mdX a2 k) (mdY a2 k r)) (dat 8 za) j)) := by
              have hbq := HB8.out q0 hq0
              have hgo := H12.out.2.2.glo
              refine ⟨fun i hi => ?_, by simpa using H12.out.2.2.gll, L8.out.lt hgo⟩
              have hbo := (H12.out.2.2.own i hi).1
              exact ⟨.slice (some ⟨bp i, 0, none⟩) 8 8, by rw [Nat.zero_add]; exact (hus.cell (p := ⟨gp, i, none⟩) H12.out.2.2.gll (by unfold One; show ¬ gp = _; omega)).trans (H12.out.2.2.lin i hi), bp i, 0, 8, by rw [acrZ_length], blk_row ((H12.out.2.2.rows i hi).up hus (by unfold One; omega)), by simpa using H12.out.2.2.lt hi, L8.out.lt hbo⟩
            have H13 := hid (And.intro (HD.out.nxt (HD.out.ls.one HFM.out hel.up hfs)) (And.intro hel hpe))
            have HV0 := hid v0
            have HV8 := hid v8
            obtain ⟨bq0, BQ⟩ : ∃ x, Hid (b1 q0 = x) := ⟨_, rfl⟩
            rw [BQ.out] at x1 x2 f2 H13
            have i1 : (0 : Int) ≤ (q0 : Int) := by omega
            have i2 : (q0 : Int) < (k : Int) := by omega
            have i3 : (0 : Int) ≤ (u0 : Int) := by omega
            have i4 : (u0 : Int) < (8 : Int) := by omega
            clear hel hw hfw hF4 hus hfs hpe H12
            go_wp2_with fail
            generalize wr.setCell ⟨bq0, u0, none⟩ (.int .u8 (xv ^^^ v : Nat)) = ws at *
            have HSR : Hid (∀ i u, (updL (dat 8 za) q0 ((dat 8 za q0).set u0 (xv ^^^ v)) i).getD u 0 < 256) := fun i u => by
              unfold updL
              split
              · rw [getD_set _ _ _ _ (by rw [dat_length]; exact hu8)]
                split
                · exact GfM.xor_lt hx8 v8
                · exact HSX.out q0 u
              · exact HSX.out i u
            have HNE : Hid (∀ j, j < r → acrZ k 8 (coefZ k r (mdX a2 k) (mdY a2 k r)) (updL (dat 8 za) q0 ((dat 8 za q0).set u0 (xv ^^^ v))) j ≠ acrZ k 8 (coefZ k r (mdX a2 k) (mdY a2 k r)) (dat 8 za) j) := fun j hj =>
              acr_turn hq0 hu8 (fun s _ hne => by unfold updL; rw [if_neg hne]) (by
                unfold updL
                rw [if_pos rfl, getD_set _ _ _ _ (by rw [dat_length]; exact hu8), if_pos rfl, XV.out]
                intro e
                have e2 : xv ^^^ (xv ^^^ v) = xv ^^^ xv := by rw [e]
                rw [← Nat.xor_assoc, Nat.xor_self, Nat.zero_xor] at e2
                exact v0 e2) HSX.out HSR.out (md_pos hq0 hj (by omega))
            refine (encL H13.out.1.ls H13.out.1.cd (H13.out.2.1.ll L4.out) (fun i hi => H13.out.2.1.lens i hi) (by omega)).mono ?_
            rintro e w12 ⟨gt, bt, rfl, te, tn, tu⟩
            have H14 := hid (And.intro (H13.out.1.nxt tn) (And.intro (te.ll H13.out.1.ls) (H13.out.2.2.nxt tn)))
            clear te tn tu H13 x1 x2 f2
            obtain ⟨A1, HA1⟩ : ∃ A : Nat → List Nat, Hid (A = acrZ k 8 (coefZ k r (mdX a2 k) (mdY a2 k r)) (dat 8 za)) := ⟨_, rfl⟩
            obtain ⟨A2, HA2⟩ : ∃ A : Nat → List Nat, Hid (A = acrZ k 8 (coefZ k r (mdX a2 k) (mdY a2 k r)) (updL (dat 8 za) q0 ((dat 8 za q0).set u0 (xv ^^^ v)))) := ⟨_, rfl⟩
            have HS1 : Hid (∀ j i, (A1 j).getD i 0 < 256) := fun j => by rw [HA1.out]; exact acrZ_small _ _ _ _ _
            have HS2 : Hid (∀ j i, (A2 j).getD i 0 < 256) := fun j => by rw [HA2.out]; exact acrZ_small _ _ _ _ _
            have HL1 : Hid (∀ j, (A1 j).length = 8) := fun j => by rw [HA1.out]; exact acrZ_length _ _ _ _ _
            have HL2 : Hid (∀ j, (A2 j).length = 8) := fun j => by rw [HA2.out]; exact acrZ_length _ _ _ _ _
            rw [← HA1.out] at HNE H14
            rw [← HA2.out] at HNE H14
            go_wp2_with fail
            go_loopw [32] (fun i wr => ∃ j : Nat, j ≤ r ∧ i = .int .i64 j ∧ Up Nul w12 wr) (fun i _ => r - (intOf i).toNat)
            case atStart => exact ⟨0, by omega, rfl, Up.refl _ _⟩
            case round =>
              obtain ⟨j, hj, rfl, hu⟩ := hrel
              have HU := hid hu
              clear hu
              by_cases hlt4 : j < r
              · have hn := H14.out.1.ls.nul HU.out
                obtain ⟨p1, o1, s1, x1, y1⟩ := (H14.out.2.1.nxt hn).at hlt4 rfl
                obtain ⟨p2, o2, s2, x2, y2⟩ := (H14.out.2.2.nxt hn).at hlt4 rfl
                have z1 := conv_row (cap := s1) (y1.row.up ((Up.refl Nul wr).drew) y1.lt id) (HL2.out j)
                have z2 := conv_row (cap := s2) (y2.row.up ((Up.refl Nul wr).drew) y2.lt id) (HL1.out j)
                rw [HL2.out, Nat.zero_add] at x1
                rw [HL1.out, Nat.zero_add] at x2
                have q1 : wr.drew.cell? ⟨gt, j, none⟩ = some (.slice (some ⟨p1, o1, none⟩) 8 s1) := x1
                have q2 : wr.drew.cell? ⟨gp, j, none⟩ = some (.slice (some ⟨p2, o2, none⟩) 8 s2) := x2
                have hne := str_ne (HS2.out j) (HS1.out j) (HNE.out j hlt4)
                generalize A1 j = B1 at z2 hne
                generalize A2 j = B2 at z1 hne
                have i1 : (0 : Int) ≤ (j : Int) := by omega
                have i2 : (j : Int) < (r : Int) := by omega
                clear hn x1 x2 y1 y2
                go_wp2_with fail
                go_region_held3 (fun w' => w'.cell? ⟨gt, j, none⟩ = some (.slice (some ⟨p1, o1, none⟩) 8 s1) ∧ w'.cell? ⟨gp, j, none⟩ = some (.slice (some ⟨p2, o2, none⟩) 8 s2) ∧
                    (convert 22 9 (.slice (some ⟨p1, o1, none⟩) 8 s1)).run Try.prog w' = .ok (.string (strOf B2)) w' ∧ (convert 22 9 (.slice (some ⟨p2, o2, none⟩) 8 s2)).run Try.prog w' = .ok (.string (strOf B1)) w')
                  (first | exact ⟨by assumption, by assumption, by assumption, by assumption⟩ | go_keep) (fail)
                go_wp2
                go_roundw
                case rel => exact ⟨j + 1, by omega, by go_num, HU.out.drew⟩
                case measure => simp [intOf]; omega
              · obtain rfl : r = j := by omega
                go_wp2_with fail
                refine (awakeL (H14.out.1.ls.nxt (H14.out.1.ls.nul HU.out))).mono ?_
                rintro e w15 ⟨rfl, n15⟩
                have H15 := hid ((H14.out.1.ls.nxt (H14.out.1.ls.nul HU.out)).nxt n15)
                clear n15
                go_wp2
                go_ret
                exact ⟨rfl, H15.out.below⟩
theorem linear_walk (a0 a1 a2 : Int) (a3 : Option Addr) (len3 cap3 : Nat) (z3 : List Int) (a4 : Option Addr) (len4 cap4 : Nat) (z4 : List Int) (a5 a6 : Int) (w : World) (w3 : CameIn w a3 len3 cap3 z3) (w4 : CameIn w a4 len4 cap4 z4) (h6 : 0 ≤ a6 ∧ a6 ≤ 255) :
    Calls Try.prog 7 #[.int .i64 a0, .int .i64 a1, .int .i64 a2, .slice a3 len3 cap3, .slice a4 len4 cap4, .int .i64 a5, .int .u8 a6] w fun e w' => e = .returned (.bool true) ∧ Below w.heap.size w w' := by
  by_cases h : 300 < len3 ∨ 300 < len4
  · exact linear_long a0 a1 a2 a5 a6 a3 a4 len3 cap3 len4 cap4 w h
  · obtain ⟨za, hza⟩ := SlN.of w3
    obtain ⟨zb, hzb⟩ := SlN.of w4
    obtain ⟨b, rfl⟩ := Int.eq_ofNat_of_zero_le h6.1
    exact linear_short a0 a1 a2 a5 b a3 a4 len3 cap3 len4 cap4 za zb w (by omega) (by omega) hza hzb (by omega)
end Go.Proofs.Ytcmcejgjajfkbaa
