/- The law CodeDecodes, to its list of shards. -/
import Derived.Test.YtkenfabnbmkhbaaGreatDecEnds
namespace Go.Proofs.YtkenfabnbmkhbaaGreat
open Go.RowKit
set_option linter.unusedVariables false

/-- append(v, y...), at a step of a region that draws. -/
theorem step_append_vals {t T : TypeId} {zr : Value} {by_ : Nat} (ht : Tryz.prog.underlying t = some (.slice T)) (hinf : (Tryz.prog.info? T).map (fun i => (i.zero, i.size, i.bytes)) = some (some zr, 1, by_)) (hz1 : zr.cells.size = 1) (hby : by_ ≤ 24)
    {w : World} {ops : Array Oper} {o : Oper} {a : Act} {K : Act → World → Prop} {Q : Exit → Act → World → Prop} {E : Prop} (hgd : o.guard = none) (s x : Operand)
    (ho : o.op = .call { callee := .builtin .append, args := #[s, x], argTypes := #[t, t] }) (base : Nat) (v : Value) (xs : List Value) (hs : a.eval s = v) (hown : OwnV T base w v xs)
    (ad : Addr) (n cap : Nat) (ys : List Value) (hx : a.eval x = .slice (some ad) n cap) (hc : ∀ j u, ys[j]? = some u → w.cell? (ad.add j) = some u) (h1 : ∀ u ∈ ys, u.oneCell' = true) (hy : ys.length = n) (hl : xs.length + n ≤ 1000000) (hbase : base ≤ w.heap.size)
    (h : ∀ v' w', Hid (OwnV T base w' v' (xs ++ ys)) → Hid (w.grownBy w' v.ownBlock) → K (a.put o.dst v') w') : if Region.wanted o (yielded ops a.tmps) = true then Oper.wp Tryz.prog o a w K Q else E := by
  have hw : Region.wanted o (yielded ops a.tmps) = true := by simp [Region.wanted, hgd]
  rw [if_pos hw]
  obtain ⟨i0, hi, hz0, hz2, hz3⟩ := info_parts hinf
  have hb : by_ * (xs.length + n) ≤ 24 * 1000000 := Nat.mul_le_mul hby hl
  obtain ⟨v', w', hrun, g1, g2, _⟩ := run_append_own (P := Tryz.prog) w base t o.type T i0 zr 1 by_ ht hi hz0 hz2 hz3 hz1 (by decide) v xs.length xs hown ad n cap ys (by rw [hy, Nat.mul_one]) hc h1 (by unfold maxLen; omega) (by first | (rw [Nat.mul_comm]; omega) | omega) hbase
  unfold Oper.wp
  simp [execOp, ho, resolve, invoke, builtin, hs, hx, hrun, Result.andThen]
  refine h v' w' ?_ g2
  show w'.ownsRow base _ 1 v' (xs ++ ys).length (xs ++ ys)
  rw [List.length_append, hy]
  exact g1
theorem dat_small {L : Nat} {z : List Nat} (hz : ∀ i, z.getD i 0 < 256) (i j : Nat) : (dat L z i).getD j 0 < 256 := small_getD (tab_small fun j => by
  split
  · exact hz _
  · omega) j
theorem tail_at (g n cap : Nat) (h1 : 2 ≤ n) (hc : n ≤ cap) (w : World) : (Instr.slice 34 (.slice (some ⟨g, 0, none⟩) n cap) (some (.int .i64 1)) none none).run Tryz.prog w = .ok (.slice (some ⟨g, 1, none⟩) (n - 1) (cap - 1)) w := by
  have h0 : (Tryz.prog.info? (Tryz.prog.elem 34)).map (·.size) = some 1 := by kernel_rfl
  obtain ⟨i, hi, hs⟩ := Option.map_eq_some_iff.1 h0
  have hsz : (sizeOf (Tryz.prog.elem 34)).run Tryz.prog w = .ok 1 w := by simp [sizeOf, typeInfo, hi, hs]
  rw [run_slice_l (P := Tryz.prog) (w := w) 34 (some ⟨g, 0, none⟩) n cap (by kernel_rfl) .i64 1 (by omega) (by omega), hsz]
  have e : (1 : Int).toNat = 1 := rfl
  simp only [Result.andThen, sliced, e, Nat.mul_one, Option.map_some]
  rw [if_neg (by omega)]
  simp [Addr.add]
/-- The list of rows, whole or without its first. -/
def LstP (w0 : World) (V gx cx gy cy c F k r pp pq sp sq : Nat) (at_ : Int) (gl : Nat) (v : Value) (w : World) : Prop :=
  ∃ (o m cl : Nat) (R : Nat → List Nat), v = .slice (some ⟨gl, o, none⟩) m cl ∧ 1 ≤ m ∧ m ≤ 18 ∧ (LL [F] w gl o m fun i => some (R i)) ∧ (∀ i, (R i).length ≤ 64) ∧ (∀ i u, (R i).getD u 0 < 256) ∧ CS w0 [F] w V gx cx gy cy c F k r pp pq sp sq at_
set_option maxRecDepth 100000 in
theorem decodes_long (a0 a1 a2 a4 a5 a6 a7 a8 a9 : Int) (a : Option Addr) (n cap : Nat) (w : World) (h : 1000 < n) :
    Calls Tryz.prog 3 #[.int .i64 a0, .int .i64 a1, .int .i64 a2, .slice a n cap, .int .i64 a4, .int .u64 a5, .int .i64 a6, .int .u8 a7, .int .i64 a8, .int .i64 a9] w fun e w' => e = .returned (.bool true) ∧ Below w.heap.size w w' := by
  go_enter Tryz.func3, Tryz.ntmps3
  go_wp2_with ((go_at_call 4; (with_reducible refine (awakeL (LS.start w)).mono ?_); rintro e w1 ⟨rfl, k1⟩; have K := hid ((LS.start w).nxt k1); clear k1))
  go_ret
  exact ⟨rfl, K.out.below⟩
set_option maxRecDepth 100000 in
set_option maxHeartbeats 25600000 in
theorem decodes_short (a0 a1 a2 a4 a5 a6 a8 a9 : Int) (by_ : Nat) (a : Option Addr) (n cap : Nat) (za : List Nat) (w : World) (hn : n ≤ 1000) (hza : SlN w a n za) (hby : by_ < 256) :
    Calls Tryz.prog 3 #[.int .i64 a0, .int .i64 a1, .int .i64 a2, .slice a n cap, .int .i64 a4, .int .u64 a5, .int .i64 a6, .int .u8 by_, .int .i64 a8, .int .i64 a9] w fun e w' => e = .returned (.bool true) ∧ Below w.heap.size w w' := by
  have hnot : ∀ (x : Bool) (w : World), (Op.unary .not (.bool x)).run Tryz.prog w = .ok (.bool (!x)) w := fun _ _ => rfl
  have HZ := hid hza
  clear hza
  obtain ⟨y, k, hk1, hk2, hk3, k1, k14, hy⟩ := md_k a0
  obtain ⟨r, hr, r1, r4⟩ := i64_and3 a1
  have HK := hid (And.intro hk1 (And.intro hk2 (And.intro hk3 (And.intro hy hr))))
  clear hk1 hk2 hk3 hy hr
  go_enter Tryz.func3, Tryz.ntmps3
  go_wp2_with fail
  refine (madeL (LS.start w) HK.out.1 HK.out.2.1 HK.out.2.2.1 k1 k14 HK.out.2.2.2.1 HK.out.2.2.2.2 r1 r4).mono ?_
  rintro e w1 ⟨gx, cx, gy, cy, rfl, rx, ry, n1⟩
  have hl := (LS.start w).nxt n1
  have H1 := hid (And.intro (hl.nxt (hl.alloc (.cells #[.slice (some ⟨gx, 0, none⟩) k cx, .slice (some ⟨gy, 0, none⟩) r cy] 26))) (LC.new (k := k) (r := r) (cx := cx) (cy := cy) hl rx ry 26))
  clear hl rx ry n1
  go_wp2_with fail
  generalize (w1.alloc (.cells #[.slice (some ⟨gx, 0, none⟩) k cx, .slice (some ⟨gy, 0, none⟩) r cy] 26)) = w2 at *
  generalize w1.heap.size = V at *
  have HD : Hid (LS w [] w2.drew ∧ LC [] w2.drew V gx cx gy cy k r (mdX a2 k) (mdY a2 k r)) := ⟨H1.out.1.nxt H1.out.1.drew, H1.out.2.nxt H1.out.1.drew⟩
  have s1 : w2.cell? ⟨V, 0, none⟩ = some (.slice (some ⟨gx, 0, none⟩) k cx) := H1.out.2.c0
  have s2 : w2.cell? ⟨V, 1, none⟩ = some (.slice (some ⟨gy, 0, none⟩) r cy) := H1.out.2.c1
  go_region_held3 (fun w' => w'.cell? ⟨V, 0, none⟩ = some (.slice (some ⟨gx, 0, none⟩) k cx) ∧ w'.cell? ⟨V, 1, none⟩ = some (.slice (some ⟨gy, 0, none⟩) r cy)) (first | exact ⟨by assumption, by assumption⟩ | go_keep)
    ((first
      | (go_at_call 7; (with_reducible refine (gfNewF _).mono ?_); rintro e w3 ⟨F, rfl, n3⟩; have H3 := hid (And.intro (HD.out.1.newF n3) (HD.out.2.newF n3)); have t1 := H3.out.2.c0; have t2 := H3.out.2.c1; clear n3)
      | (go_at_call 6; (with_reducible refine (codeL H3.out.1 (List.mem_cons_self ..) H3.out.2 k1 k14 r1 r4).mono ?_); rintro e w4 ⟨c, pp, pq, sp, sq, rfl, cs, n4⟩; have H4 := hid cs; have t3 := H4.out.lc.c0; have t4 := H4.out.lc.c1; clear cs n4)))
  clear s1 s2 t1 t2 t3 t4 H1 H3 HD
  have x0 := H4.out.lc.c0
  have x1 := H4.out.lc.c1
  have HFM : Hid (F ∈ [F]) := List.mem_cons_self ..
  obtain ⟨L, hL, L1, L32⟩ := i64_and31 a4
  go_wp2_with fail
  refine (dataL (L := L) H4.out.ls HFM.out HZ.out k1 k14 (by omega)).mono ?_
  rintro e w5 ⟨gd, cd, bd, rfl, de, _, du⟩
  have H5 : Hid (CS w [F] w5 V gx cx gy cy c F k r pp pq sp sq a2 ∧ LL [F] w5 gd 0 k fun i => some (dat L za i)) := ⟨H4.out.nxt (H4.out.ls.nul du), de.ll H4.out.ls⟩
  have HSD : Hid (∀ i u, (dat L za i).getD u 0 < 256) := dat_small fun i => HZ.out.small i
  clear de du x0 x1 hL
  obtain ⟨D, HDD⟩ : ∃ D, Hid (D = dat L za) := ⟨_, rfl⟩
  rw [← HDD.out] at H5 HSD
  have HLD : Hid (∀ i, (D i).length = L) := fun i => by rw [HDD.out]; exact dat_length _ _ _
  obtain ⟨nn, HNN⟩ : ∃ x, Hid (k + r = x) := ⟨_, rfl⟩
  have hnn18 : nn ≤ 18 := by have := HNN.out; omega
  have hnn2 : 2 ≤ nn := by have := HNN.out; omega
  obtain ⟨R, HR⟩ : ∃ R, Hid (R = full k L (mdZ a2 k r) D) := ⟨_, rfl⟩
  have HRL : Hid (∀ t, (R t).length = L) := fun t => by rw [HR.out]; exact full_len fun i _ => HLD.out i
  have HRS : Hid (∀ t u, (R t).getD u 0 < 256) := fun t u => by
    rw [HR.out]
    rcases Nat.lt_or_ge t k with h | h
    · rw [full_low h]; exact HSD.out t u
    · rw [full_high h]; exact acrZ_small _ _ _ _ _ u
  go_upto_region 9 with fail
  go_cut [25] (fun s25 wx => ∃ ga ca, s25 = .slice (some ⟨ga, 0, none⟩) nn ca ∧ St2 wx ga nn R ∧ Up Nul w5 wx)
  case first =>
    as_aux_lemma =>
      have HR0 : Hid (Up Nul w5 w5) := Up.refl _ _
      have HVC : Hid (∀ W, Up Nul w5 W → W.cell? ⟨V, 0, none⟩ = some (.slice (some ⟨gx, 0, none⟩) k cx) ∧ W.cell? ⟨V, 1, none⟩ = some (.slice (some ⟨gy, 0, none⟩) r cy)) := fun W u => ⟨(H5.out.1.lc.nxt (H5.out.1.ls.nul u)).c0, (H5.out.1.lc.nxt (H5.out.1.ls.nul u)).c1⟩
      have HST : Hid (∀ W, Up Nul w5 W → Calls Tryz.prog 9 #[.slice (some ⟨gd, 0, none⟩) k cd] W fun e w' => ∃ g cg, e = .returned (.slice (some ⟨g, 0, none⟩) k cg) ∧ OwnV 9 w5.heap.size w' (.slice (some ⟨g, 0, none⟩) k cg) (strV k D) ∧ St2 w' g k D ∧ Up Nul W w') := fun W u => (strings_any [F] w W gd 0 k cd D (H5.out.1.ls.nxt (H5.out.1.ls.nul u)) (H5.out.2.nxt (H5.out.1.ls.nul u)) (by omega)).mono fun e w' ⟨v, h1, h2, h3⟩ => by
        obtain ⟨g, cg, e1, e2, e3, e4, _, _⟩ := OwnV.row h2 (by rw [strV_length]; omega)
        rw [strV_length] at e1
        subst e1
        exact ⟨g, cg, h1, OwnV.weak h2 u.size, ⟨fun i hi => e4 i _ (strV_at hi), e3⟩, h3⟩
      have HEN : Hid (∀ W, Up Nul w5 W → ∀ g cg, St2 W g k D → Calls Tryz.prog 10 #[.agg #[.slice (some ⟨gx, 0, none⟩) k cx, .slice (some ⟨gy, 0, none⟩) r cy], .slice (some ⟨g, 0, none⟩) k cg] W fun e w' => ∃ h ch, e = .returned (.slice (some ⟨h, 0, none⟩) r ch) ∧ St2 w' h r (acrZ k L (mdZ a2 k r) D) ∧ Up Nul W w') := fun W u g cg hg => refEncL (H5.out.1.ls.nxt (H5.out.1.ls.nul u)) (H5.out.1.lc.nxt (H5.out.1.ls.nul u)).x (H5.out.1.lc.nxt (H5.out.1.ls.nul u)).y (mdX_length _ _) (mdY_length _ _ _) k1 k14 r1 r4 hg (fun i _ => HLD.out i) HSD.out (by omega)
      have HLR : Hid ((strV r (acrZ k L (mdZ a2 k r) D)).length = r) := strV_length _ _
      have HLN : Hid ((strV k D).length + r ≤ 1000000) := by show _ ≤ _; rw [strV_length]; omega
      have HFUL : Hid (strV k D ++ strV r (acrZ k L (mdZ a2 k r) D) = strV nn R) := by
        show _ = _
        rw [← strV_two, HNN.out, HR.out]
        rfl
      go_region_held3 (fun w' => Up Nul w5 w' ∧ w'.cell? ⟨V, 0, none⟩ = some (.slice (some ⟨gx, 0, none⟩) k cx) ∧ w'.cell? ⟨V, 1, none⟩ = some (.slice (some ⟨gy, 0, none⟩) r cy))
        (first | exact ⟨by assumption, (HVC.out _ (by assumption)).1, (HVC.out _ (by assumption)).2⟩ | exact ⟨HR0.out.drew, (HVC.out _ HR0.out.drew).1, (HVC.out _ HR0.out.drew).2⟩)
        ((first
          | (have _t := O12.out; go_at_call 9; (with_reducible refine (HST.out _ ?_).mono ?_); (focus (first | assumption | exact HR0.out.drew)); rintro e w13 ⟨g13, c13, rfl, o13, s13, u13⟩; have O13 := hid (And.intro o13 s13); have V13 := hid u13; have oi : Up Nul w5 w13 := (by first | exact HR0.out.drew.trans u13 | exact Up.trans (by assumption) u13); clear o13 s13 u13)
          | (go_at_call 9; (with_reducible refine (HST.out _ ?_).mono ?_); (focus (first | assumption | exact HR0.out.drew)); rintro e w12 ⟨g12, c12, rfl, o12, s12, u12⟩; have O12 := hid (And.intro o12 s12); have oi : Up Nul w5 w12 := (by first | exact HR0.out.drew.trans u12 | exact Up.trans (by assumption) u12); clear o12 s12 u12)
          | (go_at_call 10; (with_reducible refine (HEN.out _ ?_ _ _ ?_).mono ?_); (focus (first | assumption | exact HR0.out.drew)); (focus (first | exact O13.out.2 | exact O12.out.2.up V13.out | exact O12.out.2)); rintro e w14 ⟨gh, ch, rfl, s14, u14⟩; have O14 := hid s14; have V14 := hid u14; have oi : Up Nul w5 w14 := (by first | exact HR0.out.drew.trans u14 | exact Up.trans (by assumption) u14); clear s14 u14)
          | (refine step_append_vals Tryz.underlying36 info_str rfl (by omega) (by rfl) (.tmp 75) (.tmp 79) (by rfl) w5.heap.size _ (strV k D) (by rfl) (by first | exact OwnV.up O12.out.1 (V13.out.trans V14.out) (fun _ _ _ => id) | exact OwnV.up O13.out.1 V14.out (fun _ _ _ => id) | exact O13.out.1) ⟨gh, 0, none⟩ r ch (strV r (acrZ k L (mdZ a2 k r) D)) (by rfl) (fun i u hiu => by
              have hi : i < r := by
                rcases Nat.lt_or_ge i r with h | h
                · exact h
                · rw [List.getElem?_eq_none (by rw [strV_length]; exact h)] at hiu; cases hiu
              rw [strV_at hi] at hiu
              cases hiu
              rw [add_zero_at]
              first | exact O14.out.cells i hi | exact (O14.out.up V13.out).cells i hi) (strV_one _ _) HLR.out HLN.out (Up.size (S := Nul) (by assumption)) ?_; intro v15 w15 G1 G2; have G3 := hid (And.intro G1.out G2.out); have oj : Up Nul w5 w15 := (by first | exact Up.grown (by assumption) G2.out (fun q hq => by first | exact OwnV.base O12.out.1 q hq | exact OwnV.base O13.out.1 q hq)))
          | fail))
      all_goals
        have hfin := G3.out.1
        rw [HFUL.out] at hfin
        obtain ⟨ga, ca, e1, e2, e3, e4, _, _⟩ := OwnV.row hfin (by rw [strV_length]; omega)
        rw [strV_length] at e1
        subst e1
        have HEND : Hid (St2 w15 ga nn R ∧ Up Nul w5 w15) := ⟨⟨fun i hi => e4 i _ (strV_at hi), e3⟩, oj⟩
        clear hfin e2 e3 e4 G1 G2 G3 oj
        go_wp2
        go_meet
        case rel => exact ⟨ga, ca, rfl, HEND.out⟩
  case rest =>
    obtain ⟨W9, HW9⟩ : ∃ x : World, x = wc := ⟨_, rfl⟩
    subst HW9
    obtain ⟨ga, ca, rfl, st, u5⟩ := hcut
    have H6 : Hid (CS w [F] W9 V gx cx gy cy c F k r pp pq sp sq a2) := H5.out.1.nxt (H5.out.1.ls.nul u5)
    have HB := hid (bytesL ga nn ca L R W9 st (by omega) (by omega) HRL.out HRS.out (by omega))
    clear st u5 H5
    go_wp2_with fail
    refine HB.out.mono ?_
    rintro e w7 ⟨gl, cl, q, cc, rfl, lb, hcl⟩
    have HLB := hid (And.intro lb hcl)
    clear lb hcl HB
    have HX6 := hid (And.intro HRL.out HRS.out)
    go_upto_region 11 with fail
    go_cut [] (fun wx => ∃ R1, LB W9 wx gl nn q cc R1 ∧ (∀ i, (R1 i).length = L) ∧ (∀ i u, (R1 i).getD u 0 < 256))
    case first =>
      as_aux_lemma =>
        obtain ⟨y1, hy1, _⟩ := i64_and255 a6
        obtain ⟨y2, hy2, _⟩ := i64_and255 (a6 / 256)
        obtain ⟨tt, t1, t2, t3, t4⟩ : ∃ tt : Nat, (y1 : Int).tmod (nn : Int) = (tt : Int) ∧ (y1 : Int) % (nn : Int) = (tt : Int) ∧ ((nn : Int) == 0) = false ∧ tt < nn :=
          ⟨y1 % nn, by rw [Int.tmod_eq_emod_of_nonneg (by omega)]; simp, by simp, by simp; omega, Nat.mod_lt _ (by omega)⟩
        obtain ⟨uu, s1, s2, s3, s4⟩ : ∃ uu : Nat, (y2 : Int).tmod (L : Int) = (uu : Int) ∧ (y2 : Int) % (L : Int) = (uu : Int) ∧ ((L : Int) == 0) = false ∧ uu < L :=
          ⟨y2 % L, by rw [Int.tmod_eq_emod_of_nonneg (by omega)]; simp, by simp, by simp; omega, Nat.mod_lt _ (by omega)⟩
        have p0 := HLB.out.1.cell tt t4
        rw [HRL.out] at p0
        have p1 := (HLB.out.1.row tt t4).cells uu (by rw [HRL.out]; exact s4)
        rw [Nat.zero_add] at p1
        have p2 := HLB.out.1.froz tt t4 uu (by rw [HRL.out]; exact s4)
        have p8 := HRS.out tt uu
        obtain ⟨x, X⟩ : ∃ x, Hid ((R tt).getD uu 0 = x) := ⟨_, rfl⟩
        rw [X.out] at p1 p8
        have hxx := u8_xor_nat x by_ p8 hby
        have HXL := hid (GfM.xor_lt p8 hby)
        have HTU := hid (HLB.out.1.turn t4 (by rw [HRL.out]; exact s4) HXL.out)
        obtain ⟨qt, QT⟩ : ∃ x, Hid (q tt = x) := ⟨_, rfl⟩
        rw [QT.out] at p0 p1 p2 HTU
        generalize cc tt = ct at p0
        have j1 : (0 : Int) ≤ (tt : Int) := by omega
        have j2 : (tt : Int) < (nn : Int) := by omega
        have j3 : (0 : Int) ≤ (uu : Int) := by omega
        have j4 : (uu : Int) < (L : Int) := by omega
        have HFIN : Hid (∀ W, Up Nul w7 W → (∀ t, t < 1 → True) → True) := fun _ _ _ => trivial
        clear HFIN
        have HTV := hid (((HLB.out.1.nxt (Up.refl _ _).drew).turn (u := uu) t4 (by rw [HRL.out]; exact s4) HXL.out))
        rw [QT.out] at HTV
        have HLS : Hid ((∀ i, (updL R tt ((R tt).set uu (x ^^^ by_)) i).length = L) ∧ ∀ i u, (updL R tt ((R tt).set uu (x ^^^ by_)) i).getD u 0 < 256) := by
          refine ⟨fun i => ?_, fun i u => ?_⟩
          · unfold updL
            split
            · rw [List.length_set]; exact HRL.out _
            · exact HRL.out _
          · unfold updL
            split
            · rw [getD_set _ _ _ _ (by rw [HRL.out]; exact s4)]
              split
              · exact HXL.out
              · exact HRS.out _ _
            · exact HRS.out _ _
        go_region
        go_wp2
        go_meet
        case rel => exact ⟨_, HTV.out, HLS.out⟩
    case rest =>
      obtain ⟨R1, lb1, l1, s1⟩ := hcut
      have HL1 := hid (And.intro lb1 (And.intro l1 s1))
      clear lb1 l1 s1 HR HRL HRS
      go_upto_if 103 with fail
      go_cut [] (fun wx => ∃ R2, LB W9 wx gl nn q cc R2 ∧ (∀ i, (R2 i).length ≤ 64) ∧ (∀ i u, (R2 i).getD u 0 < 256))
      case first =>
        as_aux_lemma =>
          obtain ⟨k7, hk7, _, _⟩ := i64_and7 a8
          by_cases h4 : k7 = 4
          · have e7 : ((k7 : Int) - 1 == 3) = true := by simp; omega
            have e8 : (k7 : Int) - 1 = 3 := by omega
            obtain ⟨y3, hy3, _⟩ := i64_and255 (a8 / 8)
            obtain ⟨tt, t1, t2, t3, t4⟩ : ∃ tt : Nat, (y3 : Int).tmod (nn : Int) = (tt : Int) ∧ (y3 : Int) % (nn : Int) = (tt : Int) ∧ ((nn : Int) == 0) = false ∧ tt < nn :=
              ⟨y3 % nn, by rw [Int.tmod_eq_emod_of_nonneg (by omega)]; simp, by simp, by simp; omega, Nat.mod_lt _ (by omega)⟩
            have p0 := HL1.out.1.cell tt t4
            rw [HL1.out.2.1] at p0
            have p3 := HL1.out.1.gfr tt
            have HLc : Hid (L ≤ cc tt) := by have := HL1.out.1.cap tt t4; rwa [HL1.out.2.1] at this
            obtain ⟨Lm, hLm⟩ : ∃ x : Nat, x + 1 = L := ⟨L - 1, by omega⟩
            have eL : (L : Int) - 1 = (Lm : Int) := by omega
            have hsl : ∀ W, (Instr.slice 22 (.slice (some ⟨q tt, 0, none⟩) L (cc tt)) none (some (.int .i64 (Lm : Int))) none).run Tryz.prog W = .ok (.slice (some ⟨q tt, 0, none⟩) Lm (cc tt)) W := fun W => by
              have hsz : (sizeOf (Tryz.prog.elem 22)).run Tryz.prog W = .ok 1 W := by
                have h : (Tryz.prog.info? (Tryz.prog.elem 22)).map (·.size) = some 1 := by kernel_rfl
                obtain ⟨i, hi, hs⟩ := Option.map_eq_some_iff.1 h
                simp [sizeOf, typeInfo, hi, hs]
              rw [run_slice_h (P := Tryz.prog) (w := W) 22 (some ⟨q tt, 0, none⟩) L (cc tt) (by kernel_rfl) .i64 Lm (by omega) (by have := HLc.out; omega), hsz]
              simp [Result.andThen, sliced, Addr.add]
            have HCUT := hid (HL1.out.1.cut (m := Lm) t4 (by rw [HL1.out.2.1]; omega))
            have HLS : Hid ((∀ i, (updL R1 tt ((R1 tt).take Lm) i).length ≤ 64) ∧ ∀ i u, (updL R1 tt ((R1 tt).take Lm) i).getD u 0 < 256) := by
              refine ⟨fun i => ?_, fun i u => ?_⟩
              · unfold updL
                split
                · rw [List.length_take, HL1.out.2.1]; omega
                · rw [HL1.out.2.1]; omega
              · unfold updL
                split
                · have := HL1.out.2.2 tt u
                  simp only [List.getD_eq_getElem?_getD, List.getElem?_take] at this ⊢
                  split
                  · exact this
                  · simp
                · exact HL1.out.2.2 i u
            obtain ⟨qt, QT⟩ : ∃ x, Hid (q tt = x) := ⟨_, rfl⟩
            obtain ⟨ct, CT⟩ : ∃ x, Hid (cc tt = x) := ⟨_, rfl⟩
            rw [QT.out, CT.out] at p0 hsl HCUT
            have j1 : (0 : Int) ≤ (tt : Int) := by omega
            have j2 : (tt : Int) < (nn : Int) := by omega
            have j3 : (0 : Int) ≤ (Lm : Int) := by omega
            clear h4 hLm
            go_wp2_with fail
            go_meet
            case rel => exact ⟨_, HCUT.out, HLS.out⟩
          · have e7 : ((k7 : Int) - 1 == 3) = false := by simp; omega
            go_wp2_with fail
            go_meet
            case rel => exact ⟨R1, HL1.out.1, fun i => by rw [HL1.out.2.1]; omega, HL1.out.2.2⟩
      case rest =>
        obtain ⟨R2, lb2, l2, s2⟩ := hcut
        have HL2 := hid (And.intro lb2 (And.intro l2 s2))
        clear lb2 l2 s2 HL1
        go_upto_if 122 with fail
        go_cut [26] (fun s26 wx => LstP w V gx cx gy cy c F k r pp pq sp sq a2 gl s26 wx)
        case first =>
          as_aux_lemma =>
            have hll := HL2.out.1.ll H6.out.ls
            have HLL := hid (And.intro hll (H6.out.nxt (H6.out.ls.nul HL2.out.1.up)))
            clear hll
            have HCL : Hid (nn ≤ cl) := HLB.out.2
            obtain ⟨k63, hk63, _⟩ : ∃ k : Nat, bits .and .i64 a8 63 = (k : Int) ∧ k < 64 := by
              rw [i64_mask 6 (by omega) a8 63 (by decide)]
              exact ⟨(a8 % 64).toNat, by show a8 % 64 = _; omega, by omega⟩
            by_cases h9 : k63 = 9
            · have e9 : ((k63 : Int) == 9) = true := by simp; omega
              have e9b : (k63 : Int) = 9 := by omega
              have hsl : ∀ W, (Instr.slice 34 (.slice (some ⟨gl, 0, none⟩) nn cl) (some (.int .i64 1)) none none).run Tryz.prog W = .ok (.slice (some ⟨gl, 1, none⟩) (nn - 1) (cl - 1)) W := fun W => tail_at gl nn cl hnn2 HCL.out W
              obtain ⟨m1, hm1⟩ : ∃ x, nn - 1 = x := ⟨_, rfl⟩
              obtain ⟨c1, hc1⟩ : ∃ x, cl - 1 = x := ⟨_, rfl⟩
              rw [hm1, hc1] at hsl
              have HSUB : Hid (LL [F] wc gl 1 m1 fun i => some (R2 (1 + i))) := by
                have := HLL.out.1.sub 1 m1 (by omega)
                rwa [Nat.zero_add] at this
              have HM : Hid (1 ≤ m1 ∧ m1 ≤ 18) := ⟨by omega, by omega⟩
              clear h9 hm1 hc1
              go_wp2_with fail
              go_meet
              case rel => exact ⟨1, m1, c1, fun i => R2 (1 + i), rfl, HM.out.1, HM.out.2, HSUB.out, fun i => HL2.out.2.1 _, fun i u => HL2.out.2.2 _ u, HLL.out.2⟩
            · have e9 : ((k63 : Int) == 9) = false := by simp; omega
              go_wp2_with fail
              go_meet
              case rel => exact ⟨0, nn, cl, R2, rfl, by omega, by omega, HLL.out.1, HL2.out.2.1, HL2.out.2.2, HLL.out.2⟩
        case rest =>
          obtain ⟨o, m, cl2, R3, rfl, m1, m18, ll3, l3, s3, cs3⟩ := hcut
          have HSH := hid (shards_any [F] w wc gl o m cl2 a5 (fun t => (bits .and .u64 (a5 / 2 ^ t) 1 == 1)) R3 cs3.ls ll3 l3 (by omega) (fun _ _ => rfl))
          have HCS3 := hid cs3
          have HSL0 : Hid (∀ t z, outS (fun t => (bits .and .u64 (a5 / 2 ^ t) 1 == 1)) R3 t = some z → z.length ≤ 1000) := fun t z e => by
            unfold outS at e
            split at e
            · cases e
            · cases e; have := l3 t; omega
          have HSM0 : Hid (∀ t z, outS (fun t => (bits .and .u64 (a5 / 2 ^ t) 1 == 1)) R3 t = some z → ∀ u, z.getD u 0 < 256) := fun t z e => by
            unfold outS at e
            split at e
            · cases e
            · cases e; exact s3 t
          clear ll3 l3 s3 cs3 HL2 HLB H6
          go_wp2_with fail
          refine HSH.out.mono ?_
          rintro e w8 ⟨v1, v2, xs, rfl, md⟩
          obtain ⟨h, ch, g2, c2, rfl, rfl, hch, hg2, db⟩ := mds_db HCS3.out md m1
          have HG2 := hid (HCS3.out.far hg2)
          obtain ⟨S, HSS⟩ : ∃ S, Hid (outS (fun t => (bits .and .u64 (a5 / 2 ^ t) 1 == 1)) R3 = S) := ⟨_, rfl⟩
          rw [HSS.out] at db HSL0 HSM0
          have HDB := hid db
          have HCH := hid hch
          have HSL := HSL0
          have HSM := HSM0
          clear md db hch HSH HCS3 HSS HSL0 HSM0
          rcases kinds k r m S with hk | ⟨LL', hk⟩
          · as_aux_lemma =>
              have HK := hid hk
              have m18' := m18
              have x0 := HDB.out.cs.lc.c0
              go_wp2_with fail
              with_reducible refine (dec_1 HDB.out HK.out ch).mono ?_
              rintro e w9 ⟨rfl, u9⟩
              have H9 := hid (HDB.out.nul u9)
              clear u9 hk x0
              have x0 := H9.out.cs.lc.c0
              have x1 := H9.out.cs.lc.c1
              go_wp2_with fail
              with_reducible refine (rdec_1 H9.out HK.out k1 k14 r4 m18 HSL.out c2).mono ?_
              rintro e w10 ⟨rfl, u10⟩
              have H10 := hid (H9.out.nul u10)
              clear u10 x0 x1 H9
              go_wp2_with fail
              with_reducible refine (strings_nil w10).mono ?_
              rintro e w11 ⟨rfl, rfl⟩
              go_wp2_with fail
              with_reducible refine (same_nil w10).mono ?_
              rintro e w11 ⟨rfl, rfl⟩
              go_wp2_with fail
              with_reducible refine (chk_1 H10.out HK.out ch).mono ?_
              rintro e w12 ⟨rfl, u12⟩
              have H12 := hid (H10.out.nul u12)
              clear u12 H10
              have x0 := H12.out.cs.lc.c0
              have x1 := H12.out.cs.lc.c1
              go_wp2_with fail
              with_reducible refine (rchk_1 H12.out HK.out k1 k14 r4 m18 HSL.out c2).mono ?_
              rintro e w13 ⟨rfl, u13⟩
              have H13 := hid (H12.out.nul u13)
              clear u13 x0 x1 H12
              go_wp2_with fail
              with_reducible refine (rebL_1 H13.out a9 (.inl HK.out) ch).mono ?_
              rintro e w14 ⟨rfl, u14⟩
              have H14 := hid (H13.out.nul u14)
              have HE := hid H14.out.cs
              clear u14 H13
              by_cases hmn : m = nn
              · have e1 : ((m : Int) == (nn : Int)) = true := by simp; omega
                have e2 : ((m : Int) != (nn : Int)) = false := by simp; omega
                clear hmn
                have key : a9 < 0 ∨ (0 ≤ a9 ∧ (m : Int) ≤ a9) ∨ (0 ≤ a9 ∧ a9 < (m : Int)) := by omega
                rcases key with i1 | ⟨i1, i2⟩ | ⟨i1, i2⟩
                · go_wp2_with ((go_at_call 4; (with_reducible refine (awakeL HE.out.ls).mono ?_); rintro e w20 ⟨rfl, k20⟩; have K := hid (HE.out.ls.nxt k20); clear k20))
                  go_ret
                  exact ⟨rfl, K.out.below⟩
                · go_wp2_with ((go_at_call 4; (with_reducible refine (awakeL HE.out.ls).mono ?_); rintro e w20 ⟨rfl, k20⟩; have K := hid (HE.out.ls.nxt k20); clear k20))
                  go_ret
                  exact ⟨rfl, K.out.below⟩
                · have x0 := H14.out.cs.lc.c0
                  have x1 := H14.out.cs.lc.c1
                  go_wp2_with fail
                  with_reducible refine (rchk_1 H14.out HK.out k1 k14 r4 m18 HSL.out c2).mono ?_
                  rintro e w15 ⟨rfl, u15⟩
                  have HE := hid (H14.out.nul u15).cs
                  clear u15 x0 x1
                  go_wp2_with ((go_at_call 4; (with_reducible refine (awakeL HE.out.ls).mono ?_); rintro e w20 ⟨rfl, k20⟩; have K := hid (HE.out.ls.nxt k20); clear k20))
                  go_ret
                  exact ⟨rfl, K.out.below⟩
              · have e1 : ((m : Int) == (nn : Int)) = false := by simp; omega
                have e2 : ((m : Int) != (nn : Int)) = true := by simp; omega
                clear hmn
                go_wp2_with ((go_at_call 4; (with_reducible refine (awakeL HE.out.ls).mono ?_); rintro e w20 ⟨rfl, k20⟩; have K := hid (HE.out.ls.nxt k20); clear k20))
                go_ret
                exact ⟨rfl, K.out.below⟩
          · as_aux_lemma =>
              have HKF := hid hk
              have HKK : Hid (m = k + r ∧ LL' ≤ 64 ∧ Fine S m LL') := hk
              clear hk
              by_cases hT : (Tl S m).length < k
              · have x0 := HDB.out.cs.lc.c0
                go_wp2_with fail
                with_reducible refine (dec_3 HDB.out HKF.out hT ch).mono ?_
                rintro e w9 ⟨rfl, u9⟩
                have H9 := hid (HDB.out.nul u9)
                clear u9 x0
                have x0 := H9.out.cs.lc.c0
                have x1 := H9.out.cs.lc.c1
                go_wp2_with fail
                with_reducible refine (rdec_3 H9.out HKF.out hT k1 k14 r4 HSL.out c2).mono ?_
                rintro e w10 ⟨rfl, u10⟩
                have HB0 := hid (H9.out.nul u10)
                clear u10 x0 x1 H9
                go_wp2_with fail
                with_reducible refine (strings_nil w10).mono ?_
                rintro e w11 ⟨rfl, rfl⟩
                go_wp2_with fail
                with_reducible refine (same_nil w10).mono ?_
                rintro e w11 ⟨rfl, rfl⟩
                clear hT
                have x0 := HB0.out.cs.lc.c0
                go_wp2_with fail
                with_reducible refine (chk_f HB0.out HKF.out ch HCH.out).mono ?_
                rintro e w12 ⟨b, qq, rfl, cb, n12⟩
                have H12 := hid (HB0.out.nxt n12)
                have HCB := hid cb
                clear n12 cb x0
                have x0 := H12.out.cs.lc.c0
                have x1 := H12.out.cs.lc.c1
                go_wp2_with fail
                with_reducible refine (rchk_f H12.out HKF.out k1 k14 r1 r4 HSL.out HSM.out c2).mono ?_
                rintro e w13 ⟨b', qq', rfl, cb', u13⟩
                obtain ⟨rfl, rfl⟩ := HCB.out.same cb'
                have H13 := hid (H12.out.nul u13)
                clear u13 x0 x1 H12 cb' HCB
                have hbb : (b != b) = false := by simp
                have hqq : ((qq : Int) == (qq : Int)) = true := by simp
                have hqq2 : ((qq : Int) != (qq : Int)) = false := by simp
                have e1 : ((m : Int) == (nn : Int)) = true := by have := HKK.out.1; have := HNN.out; simp; omega
                have e2 : ((m : Int) != (nn : Int)) = false := by have := HKK.out.1; have := HNN.out; simp; omega
                have key : a9 < 0 ∨ (0 ≤ a9 ∧ (m : Int) ≤ a9) ∨ (0 ≤ a9 ∧ a9 < (m : Int)) := by omega
                rcases key with i1 | ⟨i1, i2⟩ | ⟨i1, i2⟩
                · have HRB := hid (rebL_1 H13.out a9 (.inr ⟨.inl i1, _, HKF.out⟩) ch)
                  go_wp2_with fail
                  with_reducible refine HRB.out.mono ?_
                  rintro e w14 ⟨rfl, u14⟩
                  have HE := hid (H13.out.nul u14).cs
                  clear u14 HRB
                  go_wp2_with ((go_at_call 4; (with_reducible refine (awakeL HE.out.ls).mono ?_); rintro e w20 ⟨rfl, k20⟩; have K := hid (HE.out.ls.nxt k20); clear k20))
                  go_ret
                  exact ⟨rfl, K.out.below⟩
                · have HRB := hid (rebL_1 H13.out a9 (.inr ⟨.inr i2, _, HKF.out⟩) ch)
                  go_wp2_with fail
                  with_reducible refine HRB.out.mono ?_
                  rintro e w14 ⟨rfl, u14⟩
                  have HE := hid (H13.out.nul u14).cs
                  clear u14 HRB
                  go_wp2_with ((go_at_call 4; (with_reducible refine (awakeL HE.out.ls).mono ?_); rintro e w20 ⟨rfl, k20⟩; have K := hid (HE.out.ls.nxt k20); clear k20))
                  go_ret
                  exact ⟨rfl, K.out.below⟩
                · obtain ⟨ii, rfl⟩ : ∃ t : Nat, a9 = t := ⟨a9.toNat, by omega⟩
                  have hii : ii < m := by omega
                  have HII := hid hii
                  have h18 : k + r ≤ 18 := by have := HNN.out; omega
                  have HRB := hid (rebL_0 H13.out ii HKF.out hii h18 ch)
                  go_wp2_with fail
                  with_reducible refine HRB.out.mono ?_
                  rintro e w14 ⟨hrb, n14⟩
                  have H14 := hid (H13.out.nxt n14)
                  have HRR := hid hrb
                  clear hrb HRB H13
                  have x0 := H14.out.cs.lc.c0
                  have x1 := H14.out.cs.lc.c1
                  rcases HRR.out with ⟨hlost, rfl⟩ | ⟨hTk, M2, bb, hM2, rfl, hbk, hbl, hbf⟩
                  · have HLO := hid hlost
                    clear hlost HRR n14
                    go_wp2_with fail
                    with_reducible refine (rchk_f H14.out HKF.out k1 k14 r1 r4 HSL.out HSM.out c2).mono ?_
                    rintro e w15 ⟨b2, q2, rfl, cb2, u15⟩
                    have hq1 : ((q2 : Int) == 1) = false := by have := cb2.not1; simp; omega
                    have H15 := hid (H14.out.nul u15)
                    clear u15 cb2 x0 x1 H14
                    have y0 := H15.out.two.b ii hii
                    have y1 := H15.out.two.is ii hii
                    have f0 := H15.out.fr (ii * 2)
                    have f1 := H15.out.fr (ii * 2 + 1)
                    have y2 : ((w15.setCell ⟨g2, ii * 2, none⟩ (.string ⟨#[]⟩)).cell? ⟨g2, ii * 2 + 1, none⟩) = some (.bool (S ii).isSome) := by
                      rw [World.cell?_setCell_other _ _ _ _ (by intro e2; have := congrArg Addr.off e2; simp at this)]
                      exact y1
                    have HTO := hid (H15.out.two.out hii)
                    rw [show (ByteArray.empty : ByteArray) = ⟨#[]⟩ from rfl] at HTO
                    have HUG : Hid (Up (One g2) w15 ((w15.setCell ⟨g2, ii * 2, none⟩ (.string ⟨#[]⟩)).setCell ⟨g2, ii * 2 + 1, none⟩ (.bool false))) := ((Up.refl _ _).setCell (p := ⟨g2, ii * 2, none⟩) (.inr (show One g2 g2 from rfl)) _).setCell (p := ⟨g2, ii * 2 + 1, none⟩) (.inr (show One g2 g2 from rfl)) _
                    have HCW := hid (H15.out.cs.put HG2.out HUG.out)
                    have x0 := HCW.out.lc.c0
                    have x1 := HCW.out.lc.c1
                    go_wp2_with fail
                    with_reducible refine (refDec_bad g2 c2 gx cx gy cy k r m 3 (out1 S ii) _ HTO.out HKK.out.1 k1 k14 r4 (fun i z e => HSL.out i z (out1_some e)) (.inr ⟨fine_not_odd (fine_out HKK.out.2.2) HKK.out.2.1, HLO.out, rfl⟩)).mono ?_
                    rintro e w17 ⟨rfl, u17⟩
                    have HE : Hid (LSC w w17 V gx cx gy cy F k r a2) := ⟨HCW.out.ls.nxt (HCW.out.ls.nul u17), HCW.out.lc.nxt (HCW.out.ls.nul u17)⟩
                    clear u17
                    go_wp2_with ((go_at_call 4; (with_reducible refine (awakeL HE.out.ls).mono ?_); rintro e w20 ⟨rfl, k20⟩; have K := hid (HE.out.ls.nxt k20); clear k20))
                    go_ret
                    exact ⟨rfl, K.out.below⟩
                  · have HLO := hid (And.intro hTk (And.intro hM2 (And.intro hbk hbl)))
                    clear hTk hM2 hbk hbl hbf HRR n14
                    go_wp2_with fail
                    with_reducible refine (rchk_f H14.out HKF.out k1 k14 r1 r4 HSL.out HSM.out c2).mono ?_
                    rintro e w15 ⟨b2, q2, rfl, cb2, u15⟩
                    have hq1 : ((q2 : Int) == 1) = false := by have := cb2.not1; simp; omega
                    have H15 := hid (H14.out.nul u15)
                    have HBK := hid (HLO.out.2.2.1.up u15 id)
                    clear u15 cb2 x0 x1 H14
                    have y0 := H15.out.two.b ii hii
                    have y1 := H15.out.two.is ii hii
                    have f0 := H15.out.fr (ii * 2)
                    have f1 := H15.out.fr (ii * 2 + 1)
                    have y2 : ((w15.setCell ⟨g2, ii * 2, none⟩ (.string ⟨#[]⟩)).cell? ⟨g2, ii * 2 + 1, none⟩) = some (.bool (S ii).isSome) := by
                      rw [World.cell?_setCell_other _ _ _ _ (by intro e2; have := congrArg Addr.off e2; simp at this)]
                      exact y1
                    have HTO := hid (H15.out.two.out hii)
                    rw [show (ByteArray.empty : ByteArray) = ⟨#[]⟩ from rfl] at HTO
                    have HUG : Hid (Up (One g2) w15 ((w15.setCell ⟨g2, ii * 2, none⟩ (.string ⟨#[]⟩)).setCell ⟨g2, ii * 2 + 1, none⟩ (.bool false))) := ((Up.refl _ _).setCell (p := ⟨g2, ii * 2, none⟩) (.inr (show One g2 g2 from rfl)) _).setCell (p := ⟨g2, ii * 2 + 1, none⟩) (.inr (show One g2 g2 from rfl)) _
                    have HCW := hid (H15.out.cs.put HG2.out HUG.out)
                    have x0 := HCW.out.lc.c0
                    have x1 := HCW.out.lc.c1
                    have HBK2 := hid (HBK.out.up HUG.out (show ¬ One g2 bb from blk_ne_two HBK.out H15.out.two hii))
                    go_wp2_with fail
                    with_reducible refine (refDec_good [F] w _ g2 c2 gx cx gy cy k r m LL' (mdX a2 k) (mdY a2 k r) (out1 S ii) M2 HCW.out.ls HCW.out.lc.x HCW.out.lc.y (mdX_length _ _) (mdY_length _ _ _) HTO.out HKK.out.1 k1 k14 r1 r4 (fine_out HKK.out.2.2) HKK.out.2.1 (fun t z e => HSM.out t z (out1_some e)) (fun i z e => HSL.out i z (out1_some e)) HLO.out.1 HLO.out.2.1).mono ?_
                    rintro e w17 ⟨v17, rfl, o17, u17⟩
                    obtain ⟨gw, cw, rfl, _, g17, cw17, _, _⟩ := OwnV.row o17 (by rw [strV_length]; omega)
                    rw [strV_length]
                    have HE : Hid (LSC w w17 V gx cx gy cy F k r a2) := ⟨HCW.out.ls.nxt (HCW.out.ls.nul u17), HCW.out.lc.nxt (HCW.out.ls.nul u17)⟩
                    have HP : Hid (∀ W, Up Nul w17 W → W.cell? ⟨gw, ii, none⟩ = some (.string (strOf (decZ k r LL' (mdZ a2 k r) (out1 S ii) M2 ii))) ∧ (convert 22 9 (.slice (some ⟨bb, 0, none⟩) LL' LL')).run Tryz.prog W = .ok (.string (strOf (decZ k r LL' (mdZ a2 k r) (out1 S ii) M2 ii))) W) := fun W u =>
                      ⟨(u.cell (p := ⟨gw, ii, none⟩) g17 id).trans (cw17 ii _ (strV_at hii)), conv_row (blk_row ((HBK2.out.up u17 id).up u id)) HLO.out.2.2.2⟩
                    have hsd : ((strOf (decZ k r LL' (mdZ a2 k r) (out1 S ii) M2 ii)).toList == (strOf (decZ k r LL' (mdZ a2 k r) (out1 S ii) M2 ii)).toList) = true := by simp
                    generalize strOf (decZ k r LL' (mdZ a2 k r) (out1 S ii) M2 ii) = sd at HP hsd
                    have HR0 : Hid (Up Nul w17 w17) := Up.refl _ _
                    clear o17 u17 g17 cw17 HBK HBK2 HLO HTO HCW HUG H15 x0 x1
                    go_wp2_with fail
                    go_region_held3 (fun w' => Up Nul w17 w' ∧ w'.cell? ⟨gw, ii, none⟩ = some (.string sd) ∧ (convert 22 9 (.slice (some ⟨bb, 0, none⟩) LL' LL')).run Tryz.prog w' = .ok (.string sd) w')
                      (first | exact ⟨by assumption, HP.out _ (by assumption)⟩ | exact ⟨HR0.out, HP.out _ HR0.out⟩ | exact ⟨HR0.out.drew, HP.out _ HR0.out.drew⟩ | exact ⟨oi, HP.out _ oi⟩ | exact ⟨oi.drew, HP.out _ oi.drew⟩)
                      ((go_at_call 4; (with_reducible refine (awake_any _).mono ?_); rintro e w20 ⟨rfl, k20⟩; have oi : Up Nul w17 w20 := (by first | exact (show Up Nul w17 _ from by assumption).trans k20 | exact HR0.out.trans k20 | exact HR0.out.drew.trans k20)))
                    go_wp2_with fail
                    go_ret
                    exact ⟨rfl, (HE.out.ls.nxt (HE.out.ls.nul (by first | assumption | exact HR0.out))).below⟩
              · have h18 : k + r ≤ 18 := by have := HNN.out; omega
                have hT' : k ≤ (Tl S m).length := by omega
                obtain ⟨M0, hM0⟩ : ∃ M, GfM.run k (GfM.beside k (cz k (pickZ k k (unitZ k ++ mdZ a2 k r) fun i => (Tl S m).getD i 0))) k = some M := by
                  have hmm := HKK.out.1
                  have h := md_regular (at_ := a2) S h18 (by rw [← hmm]; exact hT')
                  rwa [← hmm] at h
                have HM0 := hid (And.intro hT' hM0)
                clear hM0 hT' hT h18
                have x0 := HDB.out.cs.lc.c0
                go_wp2_with fail
                with_reducible refine (dec_0 HDB.out HKF.out HM0.out.1 HM0.out.2 ch).mono ?_
                rintro e w9 ⟨gg, cg, rfl, ll9, n9⟩
                have H9 := hid (And.intro (HDB.out.nxt n9) ll9)
                clear n9 ll9 x0
                have x0 := H9.out.1.cs.lc.c0
                have x1 := H9.out.1.cs.lc.c1
                go_wp2_with fail
                with_reducible refine (rdec_0 H9.out.1 HKF.out HM0.out.1 HM0.out.2 k1 k14 r1 r4 HSL.out HSM.out c2).mono ?_
                rintro e w10 ⟨gr, cr, rfl, st10, u10⟩
                have H10 := hid (And.intro (H9.out.1.nul u10) (And.intro (H9.out.2.nxt (H9.out.1.cs.ls.nul u10)) st10))
                clear u10 st10 x0 x1 H9
                go_wp2_with fail
                with_reducible refine (stringsL H10.out.1.cs.ls H10.out.2.1 m1 (by omega)).mono ?_
                rintro e w11 ⟨gs, cs', rfl, st11, u11⟩
                have H11 := hid (And.intro (H10.out.1.nul u11) (And.intro st11 (H10.out.2.2.up u11)))
                clear st11 u11 H10
                go_wp2_with fail
                with_reducible refine (same_yes gs gr m cs' cr _ _ H11.out.2.1 H11.out.2.2 (by omega)).mono ?_
                rintro e w11b ⟨rfl, u12⟩
                have HB0 := hid (H11.out.1.nul u12)
                clear u12 H11 HM0
                have x0 := HB0.out.cs.lc.c0
                go_wp2_with fail
                with_reducible refine (chk_f HB0.out HKF.out ch HCH.out).mono ?_
                rintro e w12 ⟨b, qq, rfl, cb, n12⟩
                have H12 := hid (HB0.out.nxt n12)
                have HCB := hid cb
                clear n12 cb x0
                have x0 := H12.out.cs.lc.c0
                have x1 := H12.out.cs.lc.c1
                go_wp2_with fail
                with_reducible refine (rchk_f H12.out HKF.out k1 k14 r1 r4 HSL.out HSM.out c2).mono ?_
                rintro e w13 ⟨b', qq', rfl, cb', u13⟩
                obtain ⟨rfl, rfl⟩ := HCB.out.same cb'
                have H13 := hid (H12.out.nul u13)
                clear u13 x0 x1 H12 cb' HCB
                have hbb : (b != b) = false := by simp
                have hqq : ((qq : Int) == (qq : Int)) = true := by simp
                have hqq2 : ((qq : Int) != (qq : Int)) = false := by simp
                have e1 : ((m : Int) == (nn : Int)) = true := by have := HKK.out.1; have := HNN.out; simp; omega
                have e2 : ((m : Int) != (nn : Int)) = false := by have := HKK.out.1; have := HNN.out; simp; omega
                have key : a9 < 0 ∨ (0 ≤ a9 ∧ (m : Int) ≤ a9) ∨ (0 ≤ a9 ∧ a9 < (m : Int)) := by omega
                rcases key with i1 | ⟨i1, i2⟩ | ⟨i1, i2⟩
                · have HRB := hid (rebL_1 H13.out a9 (.inr ⟨.inl i1, _, HKF.out⟩) ch)
                  go_wp2_with fail
                  with_reducible refine HRB.out.mono ?_
                  rintro e w14 ⟨rfl, u14⟩
                  have HE := hid (H13.out.nul u14).cs
                  clear u14 HRB
                  go_wp2_with ((go_at_call 4; (with_reducible refine (awakeL HE.out.ls).mono ?_); rintro e w20 ⟨rfl, k20⟩; have K := hid (HE.out.ls.nxt k20); clear k20))
                  go_ret
                  exact ⟨rfl, K.out.below⟩
                · have HRB := hid (rebL_1 H13.out a9 (.inr ⟨.inr i2, _, HKF.out⟩) ch)
                  go_wp2_with fail
                  with_reducible refine HRB.out.mono ?_
                  rintro e w14 ⟨rfl, u14⟩
                  have HE := hid (H13.out.nul u14).cs
                  clear u14 HRB
                  go_wp2_with ((go_at_call 4; (with_reducible refine (awakeL HE.out.ls).mono ?_); rintro e w20 ⟨rfl, k20⟩; have K := hid (HE.out.ls.nxt k20); clear k20))
                  go_ret
                  exact ⟨rfl, K.out.below⟩
                · obtain ⟨ii, rfl⟩ : ∃ t : Nat, a9 = t := ⟨a9.toNat, by omega⟩
                  have hii : ii < m := by omega
                  have HII := hid hii
                  have h18 : k + r ≤ 18 := by have := HNN.out; omega
                  have HRB := hid (rebL_0 H13.out ii HKF.out hii h18 ch)
                  go_wp2_with fail
                  with_reducible refine HRB.out.mono ?_
                  rintro e w14 ⟨hrb, n14⟩
                  have H14 := hid (H13.out.nxt n14)
                  have HRR := hid hrb
                  clear hrb HRB H13
                  have x0 := H14.out.cs.lc.c0
                  have x1 := H14.out.cs.lc.c1
                  rcases HRR.out with ⟨hlost, rfl⟩ | ⟨hTk, M2, bb, hM2, rfl, hbk, hbl, hbf⟩
                  · have HLO := hid hlost
                    clear hlost HRR n14
                    go_wp2_with fail
                    with_reducible refine (rchk_f H14.out HKF.out k1 k14 r1 r4 HSL.out HSM.out c2).mono ?_
                    rintro e w15 ⟨b2, q2, rfl, cb2, u15⟩
                    have hq1 : ((q2 : Int) == 1) = false := by have := cb2.not1; simp; omega
                    have H15 := hid (H14.out.nul u15)
                    clear u15 cb2 x0 x1 H14
                    have y0 := H15.out.two.b ii hii
                    have y1 := H15.out.two.is ii hii
                    have f0 := H15.out.fr (ii * 2)
                    have f1 := H15.out.fr (ii * 2 + 1)
                    have y2 : ((w15.setCell ⟨g2, ii * 2, none⟩ (.string ⟨#[]⟩)).cell? ⟨g2, ii * 2 + 1, none⟩) = some (.bool (S ii).isSome) := by
                      rw [World.cell?_setCell_other _ _ _ _ (by intro e2; have := congrArg Addr.off e2; simp at this)]
                      exact y1
                    have HTO := hid (H15.out.two.out hii)
                    rw [show (ByteArray.empty : ByteArray) = ⟨#[]⟩ from rfl] at HTO
                    have HUG : Hid (Up (One g2) w15 ((w15.setCell ⟨g2, ii * 2, none⟩ (.string ⟨#[]⟩)).setCell ⟨g2, ii * 2 + 1, none⟩ (.bool false))) := ((Up.refl _ _).setCell (p := ⟨g2, ii * 2, none⟩) (.inr (show One g2 g2 from rfl)) _).setCell (p := ⟨g2, ii * 2 + 1, none⟩) (.inr (show One g2 g2 from rfl)) _
                    have HCW := hid (H15.out.cs.put HG2.out HUG.out)
                    have x0 := HCW.out.lc.c0
                    have x1 := HCW.out.lc.c1
                    go_wp2_with fail
                    with_reducible refine (refDec_bad g2 c2 gx cx gy cy k r m 3 (out1 S ii) _ HTO.out HKK.out.1 k1 k14 r4 (fun i z e => HSL.out i z (out1_some e)) (.inr ⟨fine_not_odd (fine_out HKK.out.2.2) HKK.out.2.1, HLO.out, rfl⟩)).mono ?_
                    rintro e w17 ⟨rfl, u17⟩
                    have HE : Hid (LSC w w17 V gx cx gy cy F k r a2) := ⟨HCW.out.ls.nxt (HCW.out.ls.nul u17), HCW.out.lc.nxt (HCW.out.ls.nul u17)⟩
                    clear u17
                    go_wp2_with ((go_at_call 4; (with_reducible refine (awakeL HE.out.ls).mono ?_); rintro e w20 ⟨rfl, k20⟩; have K := hid (HE.out.ls.nxt k20); clear k20))
                    go_ret
                    exact ⟨rfl, K.out.below⟩
                  · have HLO := hid (And.intro hTk (And.intro hM2 (And.intro hbk hbl)))
                    clear hTk hM2 hbk hbl hbf HRR n14
                    go_wp2_with fail
                    with_reducible refine (rchk_f H14.out HKF.out k1 k14 r1 r4 HSL.out HSM.out c2).mono ?_
                    rintro e w15 ⟨b2, q2, rfl, cb2, u15⟩
                    have hq1 : ((q2 : Int) == 1) = false := by have := cb2.not1; simp; omega
                    have H15 := hid (H14.out.nul u15)
                    have HBK := hid (HLO.out.2.2.1.up u15 id)
                    clear u15 cb2 x0 x1 H14
                    have y0 := H15.out.two.b ii hii
                    have y1 := H15.out.two.is ii hii
                    have f0 := H15.out.fr (ii * 2)
                    have f1 := H15.out.fr (ii * 2 + 1)
                    have y2 : ((w15.setCell ⟨g2, ii * 2, none⟩ (.string ⟨#[]⟩)).cell? ⟨g2, ii * 2 + 1, none⟩) = some (.bool (S ii).isSome) := by
                      rw [World.cell?_setCell_other _ _ _ _ (by intro e2; have := congrArg Addr.off e2; simp at this)]
                      exact y1
                    have HTO := hid (H15.out.two.out hii)
                    rw [show (ByteArray.empty : ByteArray) = ⟨#[]⟩ from rfl] at HTO
                    have HUG : Hid (Up (One g2) w15 ((w15.setCell ⟨g2, ii * 2, none⟩ (.string ⟨#[]⟩)).setCell ⟨g2, ii * 2 + 1, none⟩ (.bool false))) := ((Up.refl _ _).setCell (p := ⟨g2, ii * 2, none⟩) (.inr (show One g2 g2 from rfl)) _).setCell (p := ⟨g2, ii * 2 + 1, none⟩) (.inr (show One g2 g2 from rfl)) _
                    have HCW := hid (H15.out.cs.put HG2.out HUG.out)
                    have x0 := HCW.out.lc.c0
                    have x1 := HCW.out.lc.c1
                    have HBK2 := hid (HBK.out.up HUG.out (show ¬ One g2 bb from blk_ne_two HBK.out H15.out.two hii))
                    go_wp2_with fail
                    with_reducible refine (refDec_good [F] w _ g2 c2 gx cx gy cy k r m LL' (mdX a2 k) (mdY a2 k r) (out1 S ii) M2 HCW.out.ls HCW.out.lc.x HCW.out.lc.y (mdX_length _ _) (mdY_length _ _ _) HTO.out HKK.out.1 k1 k14 r1 r4 (fine_out HKK.out.2.2) HKK.out.2.1 (fun t z e => HSM.out t z (out1_some e)) (fun i z e => HSL.out i z (out1_some e)) HLO.out.1 HLO.out.2.1).mono ?_
                    rintro e w17 ⟨v17, rfl, o17, u17⟩
                    obtain ⟨gw, cw, rfl, _, g17, cw17, _, _⟩ := OwnV.row o17 (by rw [strV_length]; omega)
                    rw [strV_length]
                    have HE : Hid (LSC w w17 V gx cx gy cy F k r a2) := ⟨HCW.out.ls.nxt (HCW.out.ls.nul u17), HCW.out.lc.nxt (HCW.out.ls.nul u17)⟩
                    have HP : Hid (∀ W, Up Nul w17 W → W.cell? ⟨gw, ii, none⟩ = some (.string (strOf (decZ k r LL' (mdZ a2 k r) (out1 S ii) M2 ii))) ∧ (convert 22 9 (.slice (some ⟨bb, 0, none⟩) LL' LL')).run Tryz.prog W = .ok (.string (strOf (decZ k r LL' (mdZ a2 k r) (out1 S ii) M2 ii))) W) := fun W u =>
                      ⟨(u.cell (p := ⟨gw, ii, none⟩) g17 id).trans (cw17 ii _ (strV_at hii)), conv_row (blk_row ((HBK2.out.up u17 id).up u id)) HLO.out.2.2.2⟩
                    have hsd : ((strOf (decZ k r LL' (mdZ a2 k r) (out1 S ii) M2 ii)).toList == (strOf (decZ k r LL' (mdZ a2 k r) (out1 S ii) M2 ii)).toList) = true := by simp
                    generalize strOf (decZ k r LL' (mdZ a2 k r) (out1 S ii) M2 ii) = sd at HP hsd
                    have HR0 : Hid (Up Nul w17 w17) := Up.refl _ _
                    clear o17 u17 g17 cw17 HBK HBK2 HLO HTO HCW HUG H15 x0 x1
                    go_wp2_with fail
                    go_region_held3 (fun w' => Up Nul w17 w' ∧ w'.cell? ⟨gw, ii, none⟩ = some (.string sd) ∧ (convert 22 9 (.slice (some ⟨bb, 0, none⟩) LL' LL')).run Tryz.prog w' = .ok (.string sd) w')
                      (first | exact ⟨by assumption, HP.out _ (by assumption)⟩ | exact ⟨HR0.out, HP.out _ HR0.out⟩ | exact ⟨HR0.out.drew, HP.out _ HR0.out.drew⟩ | exact ⟨oi, HP.out _ oi⟩ | exact ⟨oi.drew, HP.out _ oi.drew⟩)
                      ((go_at_call 4; (with_reducible refine (awake_any _).mono ?_); rintro e w20 ⟨rfl, k20⟩; have oi : Up Nul w17 w20 := (by first | exact (show Up Nul w17 _ from by assumption).trans k20 | exact HR0.out.trans k20 | exact HR0.out.drew.trans k20)))
                    go_wp2_with fail
                    go_ret
                    exact ⟨rfl, (HE.out.ls.nxt (HE.out.ls.nul (by first | assumption | exact HR0.out))).below⟩
end Go.Proofs.YtkenfabnbmkhbaaGreat
