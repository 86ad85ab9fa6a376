/- The law BayPlays, walked, whatever the program's Bay is. -/
import Derived.Test.YtfmgbmpdifjliaaCkSame
import Derived.Test.YtfmgbmpdifjliaaHand
import Derived.Deep.CutBlock
import Derived.Deep.CutRange
import Derived.BigQuiet
import Derived.Deep.QuietTactic
namespace Go.Proofs.Ytfmgbmpdifjliaa
open Go.RowKit
set_option linter.unusedVariables false

theorem OpB.stay {F : Nat → Prop} {ub q : Nat} {W W' : World} {v : OpV} (h : OpB W q v) (k : Stay F ub W W') (h1 : ¬ F q) (h2 : ¬ q = ub) : OpB W' q v :=
  ⟨k q (Array.getElem?_eq_some_iff.1 h.heap).1 h1 h2 _ _ _ h.heap op_dr⟩
theorem Stay.after {F : Nat → Prop} {ub : Nat} {W W1 W2 : World} (u : Up Nul W W1) (h : Stay F ub W1 W2) : Stay F ub W W2 := fun x hx h1 h2 A T fr e d =>
  h x (Nat.lt_of_lt_of_le hx u.size) h1 h2 A T fr ((u.block x hx id).trans e) d
theorem bx_scan {O : BayOps} {w0 w : World} {q bb b mm ub n i : Nat} {U : Nat → Bool} {F : Nat → Prop} (h : BX O w0 w q bb b mm ub n U F i) : ∃ l : List Ck, l.length ≤ 64 ∧
    (∀ W, Up Nul w W → Calls Try.prog 14 #[.pointer (some ⟨q, 0, none⟩)] W fun e w' => ∃ v, e = .returned v ∧ OwnK W.heap.size w' v l ∧ Up Nul W w') ∧
    (∀ W, Up Nul w W → Calls Try.prog 35 #[.pointer (some ⟨bb, 0, none⟩)] W fun e w' => ∃ v, e = .returned v ∧ OwnK W.heap.size w' v l ∧ Up Nul W w') := by
  obtain ⟨k, live, R, ps, r, h1, h2, hm, hg⟩ := h.px
  have h8 : ∀ s, s < n → ∀ v ∈ R s, v < 256 := fun s hs v hv => by
    obtain ⟨j, hj, rfl⟩ := List.mem_iff_getElem.1 hv
    have := (h1.sm s hs).2 j
    rwa [List.getD_eq_getElem?_getD, List.getElem?_eq_getElem hj] at this
  have hrb : RB w bb r.m ub r.n U := by rw [hm, h1.rn]; exact h.rb
  refine ⟨if live then scn R n else [], ?_, fun W u => O.scan (h.nxt u).pb (h1.pm.hd.nxt u) h.rb.le h8, fun W u => ?_⟩
  · split
    · exact Nat.le_trans (scn_length R n) h.rb.le
    · exact Nat.zero_le _
  · have e : (if r.live then scn r.R r.n else []) = if live then scn R n else [] := by rw [h1.rl, h1.rn, scn_congr h1.inv.same]
    have := rscan_any r W (hrb.nxt u) (h1.pm.rd.nxt u) fun s hs => by
      rw [h1.rn] at hs
      rw [h1.inv.same s hs]
      exact h8 s hs
    rwa [e] at this
set_option maxRecDepth 100000 in
set_option maxHeartbeats 6400000 in
theorem bplays_walk (O : BayOps) (HA : Hid (∀ w, Calls Try.prog 15 #[] w fun e w' => e = .returned (.bool true) ∧ Up Nul w w')) (a0 : Int) (a1 : Option Addr) (len1 cap1 : Nat) (G : Nat → OpV) (w : World) (w1 : CameO w a1 len1 G) :
    Calls Try.prog 5 #[.int .i64 a0, .slice a1 len1 cap1] w fun e w' => e = .returned (.bool true) ∧ Below w.heap.size w w' := by
  have HF := hid w1
  have l2 : (len1 : Int) ≤ 9223372036854775807 := by have := w1.2; omega
  obtain ⟨k3, hk3, hk8⟩ := i64_mask3 a0
  have HK := hid hk8
  have HN : Hid (cnt (k3 : Nat) = k3) := by show _ = _; unfold cnt; rw [Int.toNat_natCast]; omega
  clear w1 hk8
  go_enter Try.func5, Try.ntmps5
  go_wp2_with fail
  refine (newH_nil (Up.refl Nul w) (k3 : Nat) k3 HN.out).mono ?_
  rintro e w2 ⟨b, rfl, h1, h2⟩
  have HH := hid h1
  have U2 := hid h2
  clear h1 h2
  go_wp2_with fail
  refine (rnewDisk_any (k3 : Nat) none w2 (by have := HK.out; omega)).mono ?_
  rintro e w3 ⟨r, rfl, r1, r2, r3, r4, r5, r6, r7, r8⟩
  have U3 := hid (U2.out.trans r8)
  have HH3 := hid (HH.out.nxt r8)
  have HRR := hid (And.intro r1 (And.intro (r2.trans HN.out) (And.intro r3 (And.intro r4 (And.intro r5 (And.intro r6 r7))))))
  have HU23 := hid r8
  clear r1 r2 r3 r4 r5 r6 r7 r8 HH
  go_wp2_with fail
  refine (O.new HH3.out (by have := HK.out; omega)).mono ?_
  rintro e w4 ⟨q, F, rfl, p1, p2, p3⟩
  have HPB := hid (And.intro p1 p3)
  have U4 := hid p2
  clear p1 p2 p3
  go_wp2_with fail
  refine (rnewBay_any r w4 (HRR.out.1.nxt U4.out)).mono ?_
  rintro e w5 ⟨bb, ub, rfl, b1, b2, b3, b4⟩
  have HX : Hid (BX O w w5 q bb b r.m ub k3 (fun _ => false) F 0) := by
    obtain ⟨r1, r2, r3, r4, r5, r6, r7⟩ := HRR.out
    have u5 : Up Nul w3 w5 := U4.out.trans b2
    have hlt : ∀ g, F g → g < w4.heap.size := fun g hg => by
      obtain ⟨A, T, e, _⟩ := O.ty HPB.out.1 g hg
      exact (Array.getElem?_eq_some_iff.1 e).1
    have s3 : w.heap.size ≤ w3.heap.size := U3.out.size
    have s4 : w3.heap.size ≤ w4.heap.size := U4.out.size
    refine ⟨px_new (HH3.out.nxt u5) (r1.nxt u5) (by rw [r5]; exact rfl) r2 r3 r4 r6 (fun g hg => Nat.le_trans U2.out.size (r7 g hg)) (fun g hg => by rw [r5] at hg; cases hg) (U3.out.trans u5) rfl r5, by rw [← r2]; exact b1, O.keep HPB.out.1 fun g hg => b2.block g (hlt g hg) id, fun e => ?_, fun e => ?_, ?_, ?_, fun g hg => ?_⟩
    · have := hlt bb e; omega
    · have := hlt ub e; omega
    · omega
    · omega
    · have := HPB.out.2 g hg; omega
  generalize r.m = mm at HX ⊢
  clear b1 b2 b3 b4 HRR HH3 U2 U3 U4 HPB HU23
  go_wp2_with fail
  refine (O.disk HX.out.pb).mono ?_
  rintro e w6 ⟨rfl, u6⟩
  have HX6 := hid (HX.out.nxt u6)
  clear u6 HX
  go_wp2_with fail
  refine (HA.out w6).mono ?_
  rintro e w7 ⟨rfl, u7⟩
  have HX7 : Hid (∃ U F, BX O w w7 q bb b mm ub k3 U F 0) := ⟨_, _, HX6.out.nxt u7⟩
  clear u7 HX6 F
  go_wp2_with fail
  go_loopw [9] (fun i wr => ∃ j : Nat, j ≤ 60 ∧ j ≤ len1 ∧ i = .int .i64 (j : Nat) ∧ ∃ U F, BX O w wr q bb b mm ub k3 U F j) (fun i _ => 60 - (intOf i).toNat)
  case atStart => exact ⟨0, by omega, by omega, rfl, HX7.out⟩
  case round =>
    as_aux_lemma =>
      obtain ⟨j, hj, hjl, rfl, U, F, hp⟩ := hrel
      have HP := hid hp
      clear hp HX7
      have j0 : (0 : Int) ≤ (j : Int) := by omega
      by_cases hlj : j < len1
      · have j1 : (j : Int) < (len1 : Int) := by omega
        by_cases h60 : j < 60
        · have j2 : (j : Int) < 60 := by omega
          obtain ⟨ob, oo, ha, hbl, hop⟩ : ∃ gb o, a1 = some ⟨gb, o, none⟩ ∧ gb < w.heap.size ∧ ∀ i, i < len1 → OpAt w gb (o + i * 6) (G i) := by
            rcases HF.out.1 with e | e
            · omega
            · exact e
          subst ha
          have hop := hop j hlj
          generalize G j = v at hop
          obtain ⟨z, hz1, hz2⟩ := hop.bytes
          have HZ := hid hz1
          have h8 := bounds_u8 hop.wf
          have hn := bounds_i64 hop.wn
          have ha := bounds_i64 hop.wa
          have hcap := came_cap hop.wb
          have HRG : Hid (wr.rangeAt ob (oo + j * 6) (opcs v)) := fun m u hm => by
            have hc : ∀ p, p.block = ob → wr.cell? p = w.cell? p := fun p hp => HP.out.px.up.cell (by rw [hp]; exact hbl) id
            match m, hm with
            | 0, hm => cases hm; exact (hc _ rfl).trans hop.c0
            | 1, hm => cases hm; exact (hc _ rfl).trans hop.c1
            | 2, hm => cases hm; exact (hc _ rfl).trans hop.c2
            | 3, hm => cases hm; exact (hc _ rfl).trans hop.c3
            | 4, hm => cases hm; exact (hc _ rfl).trans hop.c4
            | 5, hm => cases hm; exact (hc _ rfl).trans hop.c5
          obtain ⟨kd, sl, at_, nn, fi, ba, bl, bc, zs⟩ := v
          dsimp only at HZ h8 hn ha hcap
          obtain ⟨c, rfl⟩ : ∃ c : Nat, fi = c := ⟨fi.toNat, by omega⟩
          have HC8 : Hid (c < 256) := by show _ < _; omega
          have HAT : Hid (-9223372036854775808 ≤ at_ ∧ at_ ≤ 9223372036854775807) := by show _ ∧ _; omega
          have HBC := hid hcap
          have HJ : Hid (j < 1000) := by show _ < _; omega
          have HB := hid (OpB.new wr ⟨kd, sl, at_, nn, c, ba, bl, bc, zs⟩)
          have UA := hid ((Up.refl Nul wr).alloc (.cells (opcs ⟨kd, sl, at_, nn, c, ba, bl, bc, zs⟩).toArray 52))
          have HNF : Hid (¬ F wr.heap.size ∧ ¬ wr.heap.size = ub) := ⟨fun e => by have := HP.out.lt e; omega, fun e => by have := HP.out.rb.row.lt; omega⟩
          obtain ⟨Z, hZ1, hZ2⟩ := zero_op
          have HI : Hid ((Try.prog.info? 52).map (·.size) = some (opcs ⟨kd, sl, at_, nn, c, ba, bl, bc, zs⟩).length) := info_op
          have HI2 : Hid ((Try.prog.info? 52).map (·.size) = some (opcs ⟨kd, sl, at_, nn, c, ba, bl, bc, zs⟩).toArray.size) := info_op
          have HZS : Hid (Z.size = (opcs ⟨kd, sl, at_, nn, c, ba, bl, bc, zs⟩).toArray.size) := hZ1
          have HON : Hid ((opcs ⟨kd, sl, at_, nn, c, ba, bl, bc, zs⟩).toArray.all (·.oneCell') = true) := Array.all_eq_true_iff_forall_mem.2 fun x hx => one_opcs _ x (by simpa using hx)
          have y0 := HB.out.c0
          have y5 := HB.out.c5
          dsimp only at y0 y5
          generalize opcs ⟨kd, sl, at_, nn, c, ba, bl, bc, zs⟩ = cs at HRG HI HI2 HZS HON UA y0 y5 HB
          clear hop hz1 hz2 h8 hn ha hcap hZ1
          by_cases h200 : 200 < bl
          · have i2 : (200 : Int) < (bl : Int) := by omega
            as_aux_lemma =>
              go_wp2_with (first
                | (refine wpList_load_mid rfl 52 (.tmp 59) rfl ob (oo + j * 6) rfl cs _ HRG.out Try.underlying52 rfl HI.out ?_)
                | (refine wpList_store_new rfl 52 (.tmp 10) (.tmp 60) rfl Z cs.toArray rfl rfl HI2.out HZS.out HON.out ?_))
              go_ret
              exact ⟨rfl, (HP.out.px.up.trans UA.out).below (Nat.le_refl _) fun _ _ => id⟩
          · have i2 : ¬ (200 : Int) < (bl : Int) := by omega
            go_upto_block 2 with (first
              | (refine wpList_load_mid rfl 52 (.tmp 59) rfl ob (oo + j * 6) rfl cs _ HRG.out Try.underlying52 rfl HI.out ?_)
              | (refine wpList_store_new rfl 52 (.tmp 10) (.tmp 60) rfl Z cs.toArray rfl rfl HI2.out HZS.out HON.out ?_))
            have HX1 := hid (HP.out.nxt UA.out)
            clear y0 y5 HP UA HRG HI HI2 HZS HON hZ2
            generalize wr.alloc (.cells cs.toArray 52) = w1 at HX1 HB ⊢
            generalize wr.heap.size = ob1 at HB HNF ⊢
            have HC : Hid (∀ W, Stay F ub w1 W → W.cell? ⟨ob1, 1, none⟩ = some (.int .i64 sl) ∧ W.cell? ⟨ob1, 2, none⟩ = some (.int .i64 at_) ∧ W.cell? ⟨ob1, 3, none⟩ = some (.int .i64 nn) ∧ W.cell? ⟨ob1, 4, none⟩ = some (.int .u8 c) ∧ W.cell? ⟨ob1, 5, none⟩ = some (.slice ba bl bc)) := fun W k =>
              have h := HB.out.stay k HNF.out.1 HNF.out.2
              ⟨h.c1, h.c2, h.c3, h.c4, h.c5⟩
            have UR : Hid (Up Nul w1 w1.drew) := (Up.refl _ _).drew
            have HR0 : Hid (Stay F ub w1 w1.drew) := Stay.nul UR.out
            have HSD : Hid (∀ W, Stay F ub w1.drew W → Stay F ub w1 W) := fun W k => Stay.after UR.out k
            clear HB h200 i2 hbl
            go_cut [] from 47 to 247 (fun wx => ∃ U F, BX O w wx q bb b mm ub k3 U F (j + 1))
            case first =>
              as_aux_lemma =>
                rcases (by omega : kd = 0 ∨ kd = 1 ∨ kd = 2 ∨ kd = 3 ∨ kd = 4 ∨ kd = 5 ∨ kd = 6 ∨ kd = 7 ∨ kd = 8 ∨ (¬ kd = 0 ∧ ¬ kd = 1 ∧ ¬ kd = 2 ∧ ¬ kd = 3 ∧ ¬ kd = 4 ∧ ¬ kd = 5 ∧ ¬ kd = 6 ∧ ¬ kd = 7 ∧ ¬ kd = 8)) with rfl | rfl | rfl | rfl | rfl | rfl | rfl | rfl | rfl | ⟨k0, k1, k2, k3, k4, k5, k6, k7, k9⟩
                · as_aux_lemma =>
                    obtain ⟨x, ok, hcall⟩ := bx_take HX1.out
                    have hcc : (ok == ok) = true := by simp
                    go_wp2_with fail
                    refine hcall.mono ?_
                    rintro e w2 ⟨rfl, hdoc⟩
                    have HD := hid hdoc
                    clear hdoc hcall
                    go_wp2_with fail
                    refine HD.out.mono ?_
                    rintro e w3 ⟨rfl, hp⟩
                    have HP2 := hid hp
                    clear hp
                    go_wp2_with fail
                    go_meet
                    obtain ⟨U2, F2, h2⟩ := HP2.out
                    exact ⟨U2, F2, h2.more (Nat.le_succ j)⟩
                · as_aux_lemma =>
                    go_upto_region 21 with fail
                    have HKK : Hid (∀ W, Stay F ub w1 W → Stay F ub w1 W ∧ W.cell? ⟨ob1, 1, none⟩ = some (.int .i64 sl)) := fun W k => ⟨k, (HC.out W k).1⟩
                    refine wp_region_held_drew (S := (fun W => Stay F ub w1 W ∧ W.cell? ⟨ob1, 1, none⟩ = some (.int .i64 sl))) (by kernel_rfl) (by exact HKK.out _ HR0.out) (fun hHeld => ?_)
                    refine wpAnyH_take (i := 0) (oi := ⟨some 93, _, _, _, _, _⟩) (v := ?vs211) rfl (by kernel_rfl) (by kernel_rfl) (by kernel_rfl) (fun _ _ _ h => h) (Or.inl ⟨by rfl, ?ys211⟩) (by assumption) ?rs211
                    case ys211 => (intro w hSw; (try dsimp only at hSw); go_simp; try with_reducible rfl)
                    try simp only [Act.put, List.setIfInBounds_toArray, List.set_cons_zero, List.set_cons_succ]
                    refine wpAnyH_take (i := 1) (oi := ⟨some 94, _, _, _, _, _⟩) (v := ?vs212) rfl (by kernel_rfl) (by kernel_rfl) (by kernel_rfl) (fun _ _ _ h => h) (Or.inl ⟨by rfl, ?ys212⟩) (by assumption) ?rs212
                    case ys212 => (intro w hSw; (try dsimp only at hSw); go_simp; try with_reducible rfl)
                    try simp only [Act.put, List.setIfInBounds_toArray, List.set_cons_zero, List.set_cons_succ]
                    refine wpAnyH_take (i := 2) (oi := ⟨some 95, _, _, _, _, _⟩) (v := ?vs213) rfl (by kernel_rfl) (by kernel_rfl) (by kernel_rfl) (fun _ _ _ h => h) (Or.inl ⟨by rfl, ?ys213⟩) (by assumption) ?rs213
                    case ys213 => (intro w hSw; (try dsimp only at hSw); go_simp; try with_reducible rfl)
                    try simp only [Act.put, List.setIfInBounds_toArray, List.set_cons_zero, List.set_cons_succ]
                    refine wpAnyH_take (i := 4) (oi := ⟨some 97, _, _, _, _, _⟩) (v := ?vs214) rfl (by kernel_rfl) (by kernel_rfl) (by kernel_rfl) (fun _ _ _ h => h) (Or.inl ⟨by rfl, ?ys214⟩) (by assumption) ?rs214
                    case ys214 => (intro w hSw; (try dsimp only at hSw); go_simp; try with_reducible rfl)
                    try simp only [Act.put, List.setIfInBounds_toArray, List.set_cons_zero, List.set_cons_succ]
                    refine wpAnyH_take (i := 5) (oi := ⟨some 98, _, _, _, _, _⟩) (v := ?vs215) rfl (by kernel_rfl) (by kernel_rfl) (by kernel_rfl) (fun _ _ _ h => h) (Or.inl ⟨by rfl, ?ys215⟩) (by assumption) ?rs215
                    case ys215 => (intro w hSw; (try dsimp only at hSw); go_simp; try with_reducible rfl)
                    try simp only [Act.put, List.setIfInBounds_toArray, List.set_cons_zero, List.set_cons_succ]
                    refine wpAnyH_take (i := 6) (oi := ⟨some 99, _, _, _, _, _⟩) (v := ?vs216) rfl (by kernel_rfl) (by kernel_rfl) (by kernel_rfl) (fun _ _ _ h => h) (Or.inl ⟨by rfl, ?ys216⟩) (by assumption) ?rs216
                    case ys216 => (intro w hSw; (try dsimp only at hSw); go_simp; try with_reducible rfl)
                    try simp only [Act.put, List.setIfInBounds_toArray, List.set_cons_zero, List.set_cons_succ]
                    refine wpAnyH_ready (rs := [3]) (by kernel_rfl) (by simp) ?_
                    refine AllReadyH.cons (o := ⟨some 96, _, _, _, _, _⟩) rfl (fun K hK => ?_) AllReadyH.nil
                    go_simp
                    obtain ⟨ok, hcall⟩ := bx_set (HX1.out.nxt UR.out) sl true 16 (O.hold (HX1.out.nxt UR.out).pb HX1.out.rb.le sl); refine hcall.mono ?_; rintro e wd ⟨rfl, kd1, hdoc⟩; have HDOC := hid hdoc; have KD := hid (HSD.out _ kd1); clear hdoc hcall kd1
                    refine hK.out _ _ ?ks217 (fun hHeld => ?_)
                    case ks217 => exact HKK.out _ KD.out
                    clear hK K
                    try simp only [Act.put, List.setIfInBounds_toArray, List.set_cons_zero, List.set_cons_succ]
                    refine wpAnyH_ready (rs := [7]) (by kernel_rfl) (by simp) ?_
                    refine AllReadyH.cons (o := ⟨some 100, _, _, _, _, _⟩) rfl (fun K hK => ?_) AllReadyH.nil
                    go_simp
                    refine HDOC.out.mono ?_; rintro e wf ⟨rfl, kf1, hpf⟩; have HPF := hid hpf; have KF := hid (HSD.out _ kf1); clear hpf kf1; have hcc : (ok == ok) = true := by simp
                    refine hK.out _ _ ?ks218 (fun hHeld => ?_)
                    case ks218 => exact HKK.out _ KF.out
                    clear hK K
                    try simp only [Act.put, List.setIfInBounds_toArray, List.set_cons_zero, List.set_cons_succ]
                    refine wpAnyH_ready (rs := [8]) (by kernel_rfl) (by simp) ?_
                    refine AllReadyH.cons (o := ⟨some 101, _, _, _, _, _⟩) rfl (fun K hK => ?_) AllReadyH.nil
                    go_simp
                    skip
                    refine hK.out _ _ ?ks219 (fun hHeld => ?_)
                    case ks219 => exact HKK.out _ KF.out
                    clear hK K
                    try simp only [Act.put, List.setIfInBounds_toArray, List.set_cons_zero, List.set_cons_succ]
                    refine wpAnyH_done (by kernel_rfl) ?_ _
                    go_wp2_with fail
                    go_meet
                    obtain ⟨U2, F2, h2⟩ := HPF.out
                    exact ⟨U2, F2, h2.more (Nat.le_succ j)⟩
                · as_aux_lemma =>
                    go_upto_region 24 with fail
                    have HKK : Hid (∀ W, Stay F ub w1 W → Stay F ub w1 W ∧ W.cell? ⟨ob1, 1, none⟩ = some (.int .i64 sl)) := fun W k => ⟨k, (HC.out W k).1⟩
                    refine wp_region_held_drew (S := (fun W => Stay F ub w1 W ∧ W.cell? ⟨ob1, 1, none⟩ = some (.int .i64 sl))) (by kernel_rfl) (by exact HKK.out _ HR0.out) (fun hHeld => ?_)
                    refine wpAnyH_take (i := 0) (oi := ⟨some 104, _, _, _, _, _⟩) (v := ?vs241) rfl (by kernel_rfl) (by kernel_rfl) (by kernel_rfl) (fun _ _ _ h => h) (Or.inl ⟨by rfl, ?ys241⟩) (by assumption) ?rs241
                    case ys241 => (intro w hSw; (try dsimp only at hSw); go_simp; try with_reducible rfl)
                    try simp only [Act.put, List.setIfInBounds_toArray, List.set_cons_zero, List.set_cons_succ]
                    refine wpAnyH_take (i := 1) (oi := ⟨some 105, _, _, _, _, _⟩) (v := ?vs242) rfl (by kernel_rfl) (by kernel_rfl) (by kernel_rfl) (fun _ _ _ h => h) (Or.inl ⟨by rfl, ?ys242⟩) (by assumption) ?rs242
                    case ys242 => (intro w hSw; (try dsimp only at hSw); go_simp; try with_reducible rfl)
                    try simp only [Act.put, List.setIfInBounds_toArray, List.set_cons_zero, List.set_cons_succ]
                    refine wpAnyH_take (i := 2) (oi := ⟨some 106, _, _, _, _, _⟩) (v := ?vs243) rfl (by kernel_rfl) (by kernel_rfl) (by kernel_rfl) (fun _ _ _ h => h) (Or.inl ⟨by rfl, ?ys243⟩) (by assumption) ?rs243
                    case ys243 => (intro w hSw; (try dsimp only at hSw); go_simp; try with_reducible rfl)
                    try simp only [Act.put, List.setIfInBounds_toArray, List.set_cons_zero, List.set_cons_succ]
                    refine wpAnyH_take (i := 4) (oi := ⟨some 108, _, _, _, _, _⟩) (v := ?vs244) rfl (by kernel_rfl) (by kernel_rfl) (by kernel_rfl) (fun _ _ _ h => h) (Or.inl ⟨by rfl, ?ys244⟩) (by assumption) ?rs244
                    case ys244 => (intro w hSw; (try dsimp only at hSw); go_simp; try with_reducible rfl)
                    try simp only [Act.put, List.setIfInBounds_toArray, List.set_cons_zero, List.set_cons_succ]
                    refine wpAnyH_take (i := 5) (oi := ⟨some 109, _, _, _, _, _⟩) (v := ?vs245) rfl (by kernel_rfl) (by kernel_rfl) (by kernel_rfl) (fun _ _ _ h => h) (Or.inl ⟨by rfl, ?ys245⟩) (by assumption) ?rs245
                    case ys245 => (intro w hSw; (try dsimp only at hSw); go_simp; try with_reducible rfl)
                    try simp only [Act.put, List.setIfInBounds_toArray, List.set_cons_zero, List.set_cons_succ]
                    refine wpAnyH_take (i := 6) (oi := ⟨some 110, _, _, _, _, _⟩) (v := ?vs246) rfl (by kernel_rfl) (by kernel_rfl) (by kernel_rfl) (fun _ _ _ h => h) (Or.inl ⟨by rfl, ?ys246⟩) (by assumption) ?rs246
                    case ys246 => (intro w hSw; (try dsimp only at hSw); go_simp; try with_reducible rfl)
                    try simp only [Act.put, List.setIfInBounds_toArray, List.set_cons_zero, List.set_cons_succ]
                    refine wpAnyH_ready (rs := [3]) (by kernel_rfl) (by simp) ?_
                    refine AllReadyH.cons (o := ⟨some 107, _, _, _, _, _⟩) rfl (fun K hK => ?_) AllReadyH.nil
                    go_simp
                    obtain ⟨ok, hcall⟩ := bx_set (HX1.out.nxt UR.out) sl false 12 (O.give (HX1.out.nxt UR.out).pb HX1.out.rb.le sl); refine hcall.mono ?_; rintro e wd ⟨rfl, kd1, hdoc⟩; have HDOC := hid hdoc; have KD := hid (HSD.out _ kd1); clear hdoc hcall kd1
                    refine hK.out _ _ ?ks247 (fun hHeld => ?_)
                    case ks247 => exact HKK.out _ KD.out
                    clear hK K
                    try simp only [Act.put, List.setIfInBounds_toArray, List.set_cons_zero, List.set_cons_succ]
                    refine wpAnyH_ready (rs := [7]) (by kernel_rfl) (by simp) ?_
                    refine AllReadyH.cons (o := ⟨some 111, _, _, _, _, _⟩) rfl (fun K hK => ?_) AllReadyH.nil
                    go_simp
                    refine HDOC.out.mono ?_; rintro e wf ⟨rfl, kf1, hpf⟩; have HPF := hid hpf; have KF := hid (HSD.out _ kf1); clear hpf kf1; have hcc : (ok == ok) = true := by simp
                    refine hK.out _ _ ?ks248 (fun hHeld => ?_)
                    case ks248 => exact HKK.out _ KF.out
                    clear hK K
                    try simp only [Act.put, List.setIfInBounds_toArray, List.set_cons_zero, List.set_cons_succ]
                    refine wpAnyH_ready (rs := [8]) (by kernel_rfl) (by simp) ?_
                    refine AllReadyH.cons (o := ⟨some 112, _, _, _, _, _⟩) rfl (fun K hK => ?_) AllReadyH.nil
                    go_simp
                    skip
                    refine hK.out _ _ ?ks249 (fun hHeld => ?_)
                    case ks249 => exact HKK.out _ KF.out
                    clear hK K
                    try simp only [Act.put, List.setIfInBounds_toArray, List.set_cons_zero, List.set_cons_succ]
                    refine wpAnyH_done (by kernel_rfl) ?_ _
                    go_wp2_with fail
                    go_meet
                    obtain ⟨U2, F2, h2⟩ := HPF.out
                    exact ⟨U2, F2, h2.more (Nat.le_succ j)⟩
                · as_aux_lemma =>
                    go_upto_region 27 with fail
                    have HKK : Hid (∀ W, Ks DR w1 W → Up Nul w W → Ks DR w1 W ∧ W.cell? ⟨ob1, 1, none⟩ = some (.int .i64 sl) ∧ W.cell? ⟨ob1, 2, none⟩ = some (.int .i64 at_) ∧ W.cell? ⟨ob1, 5, none⟩ = some (.slice ba bl bc) ∧ (convert 32 9 (.slice ba bl bc)).run Try.prog W = .ok (.string (strOf z)) W) := fun W k u => ⟨k, (HC.out W (Stay.ks k)).1, (HC.out W (Stay.ks k)).2.1, (HC.out W (Stay.ks k)).2.2.2.2, (HZ.out.nxt u).conv bc⟩
                    refine wp_region_held_drew (S := (fun W => Ks DR w1 W ∧ W.cell? ⟨ob1, 1, none⟩ = some (.int .i64 sl) ∧ W.cell? ⟨ob1, 2, none⟩ = some (.int .i64 at_) ∧ W.cell? ⟨ob1, 5, none⟩ = some (.slice ba bl bc) ∧ (convert 32 9 (.slice ba bl bc)).run Try.prog W = .ok (.string (strOf z)) W)) (by kernel_rfl) (by exact HKK.out _ (Ks.nul UR.out) (HX1.out.px.up.trans UR.out)) (fun hHeld => ?_)
                    refine wpAnyH_take (i := 0) (oi := ⟨some 115, _, _, _, _, _⟩) (v := ?vw1) rfl (by kernel_rfl) (by kernel_rfl) (by kernel_rfl) (fun _ _ _ h => h) (Or.inl ⟨by rfl, ?yw1⟩) (by assumption) ?rw1
                    case yw1 => (intro w hSw; (try dsimp only at hSw); go_simp; try with_reducible rfl)
                    try simp only [Act.put, List.setIfInBounds_toArray, List.set_cons_zero, List.set_cons_succ]
                    refine wpAnyH_take (i := 1) (oi := ⟨some 116, _, _, _, _, _⟩) (v := ?vw2) rfl (by kernel_rfl) (by kernel_rfl) (by kernel_rfl) (fun _ _ _ h => h) (Or.inl ⟨by rfl, ?yw2⟩) (by assumption) ?rw2
                    case yw2 => (intro w hSw; (try dsimp only at hSw); go_simp; try with_reducible rfl)
                    try simp only [Act.put, List.setIfInBounds_toArray, List.set_cons_zero, List.set_cons_succ]
                    refine wpAnyH_take (i := 2) (oi := ⟨some 117, _, _, _, _, _⟩) (v := ?vw3) rfl (by kernel_rfl) (by kernel_rfl) (by kernel_rfl) (fun _ _ _ h => h) (Or.inl ⟨by rfl, ?yw3⟩) (by assumption) ?rw3
                    case yw3 => (intro w hSw; (try dsimp only at hSw); go_simp; try with_reducible rfl)
                    try simp only [Act.put, List.setIfInBounds_toArray, List.set_cons_zero, List.set_cons_succ]
                    refine wpAnyH_take (i := 3) (oi := ⟨some 118, _, _, _, _, _⟩) (v := ?vw4) rfl (by kernel_rfl) (by kernel_rfl) (by kernel_rfl) (fun _ _ _ h => h) (Or.inl ⟨by rfl, ?yw4⟩) (by assumption) ?rw4
                    case yw4 => (intro w hSw; (try dsimp only at hSw); go_simp; try with_reducible rfl)
                    try simp only [Act.put, List.setIfInBounds_toArray, List.set_cons_zero, List.set_cons_succ]
                    refine wpAnyH_take (i := 4) (oi := ⟨some 119, _, _, _, _, _⟩) (v := ?vw5) rfl (by kernel_rfl) (by kernel_rfl) (by kernel_rfl) (fun _ _ _ h => h) (Or.inl ⟨by rfl, ?yw5⟩) (by assumption) ?rw5
                    case yw5 => (intro w hSw; (try dsimp only at hSw); go_simp; try with_reducible rfl)
                    try simp only [Act.put, List.setIfInBounds_toArray, List.set_cons_zero, List.set_cons_succ]
                    refine wpAnyH_take (i := 5) (oi := ⟨some 120, _, _, _, _, _⟩) (v := ?vw6) rfl (by kernel_rfl) (by kernel_rfl) (by kernel_rfl) (fun _ _ _ h => h) (Or.inl ⟨by rfl, ?yw6⟩) (by assumption) ?rw6
                    case yw6 => (intro w hSw; (try dsimp only at hSw); go_simp; try with_reducible rfl)
                    try simp only [Act.put, List.setIfInBounds_toArray, List.set_cons_zero, List.set_cons_succ]
                    refine wpAnyH_take (i := 6) (oi := ⟨some 121, _, _, _, _, _⟩) (v := ?vw7) rfl (by kernel_rfl) (by kernel_rfl) (by kernel_rfl) (fun _ _ _ h => h) (Or.inl ⟨by rfl, ?yw7⟩) (by assumption) ?rw7
                    case yw7 => (intro w hSw; (try dsimp only at hSw); go_simp; try with_reducible rfl)
                    try simp only [Act.put, List.setIfInBounds_toArray, List.set_cons_zero, List.set_cons_succ]
                    refine wpAnyH_take (i := 8) (oi := ⟨some 123, _, _, _, _, _⟩) (v := ?vw8) rfl (by kernel_rfl) (by kernel_rfl) (by kernel_rfl) (fun _ _ _ h => h) (Or.inl ⟨by rfl, ?yw8⟩) (by assumption) ?rw8
                    case yw8 => (intro w hSw; (try dsimp only at hSw); go_simp; try with_reducible rfl)
                    try simp only [Act.put, List.setIfInBounds_toArray, List.set_cons_zero, List.set_cons_succ]
                    refine wpAnyH_take (i := 9) (oi := ⟨some 124, _, _, _, _, _⟩) (v := ?vw9) rfl (by kernel_rfl) (by kernel_rfl) (by kernel_rfl) (fun _ _ _ h => h) (Or.inl ⟨by rfl, ?yw9⟩) (by assumption) ?rw9
                    case yw9 => (intro w hSw; (try dsimp only at hSw); go_simp; try with_reducible rfl)
                    try simp only [Act.put, List.setIfInBounds_toArray, List.set_cons_zero, List.set_cons_succ]
                    refine wpAnyH_take (i := 10) (oi := ⟨some 125, _, _, _, _, _⟩) (v := ?vw10) rfl (by kernel_rfl) (by kernel_rfl) (by kernel_rfl) (fun _ _ _ h => h) (Or.inl ⟨by rfl, ?yw10⟩) (by assumption) ?rw10
                    case yw10 => (intro w hSw; (try dsimp only at hSw); go_simp; try with_reducible rfl)
                    try simp only [Act.put, List.setIfInBounds_toArray, List.set_cons_zero, List.set_cons_succ]
                    refine wpAnyH_take (i := 11) (oi := ⟨some 126, _, _, _, _, _⟩) (v := ?vw11) rfl (by kernel_rfl) (by kernel_rfl) (by kernel_rfl) (fun _ _ _ h => h) (Or.inl ⟨by rfl, ?yw11⟩) (by assumption) ?rw11
                    case yw11 => (intro w hSw; (try dsimp only at hSw); go_simp; try with_reducible rfl)
                    try simp only [Act.put, List.setIfInBounds_toArray, List.set_cons_zero, List.set_cons_succ]
                    refine wpAnyH_take (i := 12) (oi := ⟨some 127, _, _, _, _, _⟩) (v := ?vw12) rfl (by kernel_rfl) (by kernel_rfl) (by kernel_rfl) (fun _ _ _ h => h) (Or.inl ⟨by rfl, ?yw12⟩) (by assumption) ?rw12
                    case yw12 => (intro w hSw; (try dsimp only at hSw); go_simp; try with_reducible rfl)
                    try simp only [Act.put, List.setIfInBounds_toArray, List.set_cons_zero, List.set_cons_succ]
                    refine wpAnyH_take (i := 13) (oi := ⟨some 128, _, _, _, _, _⟩) (v := ?vw13) rfl (by kernel_rfl) (by kernel_rfl) (by kernel_rfl) (fun _ _ _ h => h) (Or.inl ⟨by rfl, ?yw13⟩) (by assumption) ?rw13
                    case yw13 => (intro w hSw; (try dsimp only at hSw); go_simp; try with_reducible rfl)
                    try simp only [Act.put, List.setIfInBounds_toArray, List.set_cons_zero, List.set_cons_succ]
                    refine wpAnyH_take (i := 14) (oi := ⟨some 129, _, _, _, _, _⟩) (v := ?vw14) rfl (by kernel_rfl) (by kernel_rfl) (by kernel_rfl) (fun _ _ _ h => h) (Or.inl ⟨by rfl, ?yw14⟩) (by assumption) ?rw14
                    case yw14 => (intro w hSw; (try dsimp only at hSw); go_simp; try with_reducible rfl)
                    try simp only [Act.put, List.setIfInBounds_toArray, List.set_cons_zero, List.set_cons_succ]
                    refine wpAnyH_take (i := 15) (oi := ⟨some 130, _, _, _, _, _⟩) (v := ?vw15) rfl (by kernel_rfl) (by kernel_rfl) (by kernel_rfl) (fun _ _ _ h => h) (Or.inl ⟨by rfl, ?yw15⟩) (by assumption) ?rw15
                    case yw15 => (intro w hSw; (try dsimp only at hSw); go_simp; try with_reducible rfl)
                    try simp only [Act.put, List.setIfInBounds_toArray, List.set_cons_zero, List.set_cons_succ]
                    refine wpAnyH_ready (rs := [7]) (by kernel_rfl) (by simp) ?_
                    refine AllReadyH.cons (o := ⟨some 122, _, _, _, _, _⟩) rfl (fun K hK => ?_) AllReadyH.nil
                    go_simp
                    refine (bx_write (HX1.out.nxt UR.out) HJ.out sl at_ HAT.out ba bl bc z (HZ.out.nxt (HX1.out.px.up.trans UR.out)) HBC.out).mono ?_; rintro e wd ⟨cd, rfl, ud, kd1, hdoc⟩; have HDOC := hid hdoc; have KD : Hid (Ks DR w1 wd) := (Ks.nul UR.out).trans kd1; clear hdoc kd1
                    refine hK.out _ _ ?kw16 (fun hHeld => ?_)
                    case kw16 => exact HKK.out _ KD.out ud
                    clear hK K
                    try simp only [Act.put, List.setIfInBounds_toArray, List.set_cons_zero, List.set_cons_succ]
                    refine wpAnyH_ready (rs := [16]) (by kernel_rfl) (by simp) ?_
                    refine AllReadyH.cons (o := ⟨some 131, _, _, _, _, _⟩) rfl (fun K hK => ?_) AllReadyH.nil
                    go_simp
                    refine HDOC.out.mono ?_; rintro e wf ⟨rfl, kf1, hpf⟩; have HPF := hid hpf; have KF : Hid (Ks DR w1 wf) := (Ks.nul UR.out).trans kf1; clear hpf kf1
                    refine hK.out _ _ ?kw17 (fun hHeld => ?_)
                    case kw17 => exact HKK.out _ KF.out HPF.out.px.up
                    clear hK K
                    try simp only [Act.put, List.setIfInBounds_toArray, List.set_cons_zero, List.set_cons_succ]
                    refine wpAnyH_ready (rs := [17]) (by kernel_rfl) (by simp) ?_
                    refine AllReadyH.cons (o := ⟨some 132, _, _, _, _, _⟩) rfl (fun K hK => ?_) AllReadyH.nil
                    go_simp
                    skip
                    refine hK.out _ _ ?kw18 (fun hHeld => ?_)
                    case kw18 => exact HKK.out _ KF.out HPF.out.px.up
                    clear hK K
                    try simp only [Act.put, List.setIfInBounds_toArray, List.set_cons_zero, List.set_cons_succ]
                    refine wpAnyH_done (by kernel_rfl) ?_ _
                    go_wp2_with fail
                    go_meet
                    exact ⟨_, _, HPF.out⟩
                · as_aux_lemma =>
                    obtain ⟨cd, z2, hcall⟩ := bx_read HX1.out sl at_
                    obtain ⟨c1, c2, c3, c4, c5⟩ := HC.out _ (Stay.nul (Up.refl _ _))
                    go_wp2_with fail
                    refine hcall.mono ?_
                    rintro e w2 ⟨a, l, cc, rfl, hs, hp, u2, hdoc⟩
                    have HP2 := hid hp
                    have HD := hid hdoc
                    clear c1 c2 c3 c4 c5 hcall
                    obtain ⟨c1, c2, c3, c4, c5⟩ := HC.out _ (Stay.nul u2)
                    have HSN := hid hs
                    clear hp hdoc hs u2
                    obtain ⟨tx, TX⟩ : ∃ tx, Hid (strOf z2 = tx) := ⟨_, rfl⟩
                    rw [TX.out] at HD
                    have hqq : (tx.toList == tx.toList) = true := by simp
                    go_wp2_with fail
                    refine HD.out.mono ?_
                    rintro e w3 ⟨rfl, u3⟩
                    have hcv := (HSN.out.nxt u3).conv cc
                    rw [TX.out] at hcv
                    have HP3 := hid (HP2.out.nxt u3)
                    clear u3
                    go_wp2_with fail
                    go_meet
                    exact ⟨_, _, HP3.out.more (Nat.le_succ j)⟩
                · as_aux_lemma =>
                    obtain ⟨ok, hcall⟩ := px_rot HX1.out.px sl nn c HC8.out
                    obtain ⟨c1, c2, c3, c4, c5⟩ := HC.out _ (Stay.nul (Up.refl _ _))
                    go_wp2_with fail
                    refine hcall.mono ?_
                    rintro e w2 ⟨rfl, k2, hdoc⟩
                    have HD := hid hdoc
                    clear c1 c2 c3 c4 c5 hcall hdoc
                    obtain ⟨c1, c2, c3, c4, c5⟩ := HC.out _ (Stay.ks k2)
                    clear k2
                    go_wp2_with fail
                    refine HD.out.mono ?_
                    rintro e w3 ⟨rfl, hp⟩
                    have HP2 := hid hp
                    clear hp
                    go_wp2_with fail
                    go_meet
                    exact ⟨_, _, (HX1.out.disk HP2.out).more (Nat.le_succ j)⟩
                · as_aux_lemma =>
                    obtain ⟨cd, hcall⟩ := px_sync HX1.out.px
                    go_wp2_with fail
                    refine hcall.mono ?_
                    rintro e w2 ⟨rfl, hdoc⟩
                    have HD := hid hdoc
                    clear hdoc hcall
                    go_wp2_with fail
                    refine HD.out.mono ?_
                    rintro e w3 ⟨rfl, hp⟩
                    have HP2 := hid hp
                    clear hp
                    go_wp2_with fail
                    go_meet
                    exact ⟨_, _, (HX1.out.disk HP2.out).more (Nat.le_succ j)⟩
                · as_aux_lemma =>
                    obtain ⟨c1, c2, c3, c4, c5⟩ := HC.out _ (Stay.nul (Up.refl _ _))
                    obtain ⟨km, hkm, _⟩ := i64_mask2 at_
                    go_wp2_with fail
                    refine (px_crash HX1.out.px (km : Nat) nn).mono ?_
                    rintro e w2 ⟨rfl, k2, hdoc⟩
                    have HD := hid hdoc
                    clear c1 c2 c3 c4 c5 hdoc
                    obtain ⟨c1, c2, c3, c4, c5⟩ := HC.out _ (Stay.ks k2)
                    clear k2
                    go_wp2_with fail
                    refine HD.out.mono ?_
                    rintro e w3 ⟨rfl, hp⟩
                    have HP2 := hid hp
                    clear hp
                    go_wp2_with fail
                    go_meet
                    exact ⟨_, _, (HX1.out.disk HP2.out).more (Nat.le_succ j)⟩
                · as_aux_lemma =>
                    go_wp2_with fail
                    refine (px_fail HX1.out.px).mono ?_
                    rintro e w2 ⟨rfl, ⟨l, e1⟩, e2, hp⟩
                    have HP2 := hid hp
                    clear hp
                    go_wp2_with fail
                    go_meet
                    exact ⟨_, _, (HX1.out.disk HP2.out).more (Nat.le_succ j)⟩
                · as_aux_lemma =>
                    go_wp2_with fail
                    refine (px_replace HX1.out.px).mono ?_
                    rintro e w2 ⟨rfl, hdoc⟩
                    have HD := hid hdoc
                    clear hdoc
                    go_wp2_with fail
                    refine HD.out.mono ?_
                    rintro e w3 ⟨rfl, hp⟩
                    have HP2 := hid hp
                    clear hp
                    go_wp2_with fail
                    go_meet
                    exact ⟨_, _, (HX1.out.disk HP2.out).more (Nat.le_succ j)⟩
            as_aux_lemma =>
              obtain ⟨wy, rfl⟩ : ∃ wy, wy = wc := ⟨_, rfl⟩
              obtain ⟨U3, F3, hx⟩ := hcut
              have HX3 := hid hx
              obtain ⟨l, hl, s1, s2⟩ := bx_scan hx
              have HL := hid hl
              have S1 := hid s1
              have S2 := hid s2
              clear hx hl s1 s2 HC UR HR0 HSD HX1 HZ HNF
              go_wp2_with fail
              refine (S1.out _ (Up.refl _ _)).mono ?_
              rintro e w8 ⟨v1, rfl, o1, u8⟩
              have O1 := hid o1
              have U8 := hid u8
              clear o1 u8
              obtain ⟨a8, c8, rfl⟩ := O1.out.shape
              go_wp2_with fail
              refine (S2.out _ U8.out).mono ?_
              rintro e w9 ⟨v2, rfl, o2, u9⟩
              have O2 := hid o2
              have HX9 := hid (HX3.out.nxt (U8.out.trans u9))
              have O3 := hid (O1.out.up u9 fun _ _ _ => id)
              clear o2 u9 O1 U8 S1 S2 HX3
              obtain ⟨a9, c9, rfl⟩ := O2.out.shape
              obtain ⟨L, LL⟩ : ∃ L, Hid (l.length = L) := ⟨_, rfl⟩
              rw [LL.out] at O2 O3 HL ⊢
              have hll : ((L : Int) == (L : Int)) = true := by simp
              have hn64 := HX9.out.rb.le
              go_wp2_with fail
              refine (O.free HX9.out.pb hn64).mono ?_
              rintro e w10 ⟨rfl, u10⟩
              have HX10 := hid (HX9.out.nxt u10)
              have V10 := hid u10
              clear u10
              go_wp2_with fail
              refine (rfree_any w10 HX10.out.rb).mono ?_
              rintro e w11 ⟨rfl, u11⟩
              have HX11 := hid (HX10.out.nxt u11)
              have V11 := hid (V10.out.trans u11)
              obtain ⟨fr, FR⟩ : ∃ x : Int, Hid ((k3 : Int) - ((us U3 k3).length : Nat) = x) := ⟨_, rfl⟩
              try rw [FR.out]
              have hff : (fr == fr) = true := by simp
              clear u11 V10 HX10
              go_wp2_with fail
              refine (O.used HX11.out.pb hn64).mono ?_
              rintro e w12 ⟨v3, rfl, o12, u12⟩
              have HX12 := hid (HX11.out.nxt u12)
              have O12 := hid o12
              have V12 := hid (V11.out.trans u12)
              clear o12 u12 V11 HX11
              go_wp2_with fail
              refine (rlist_any w12 HX12.out.rb).mono ?_
              rintro e w13 ⟨v4, rfl, o13, u13⟩
              have HX13 := hid (HX12.out.nxt u13)
              have O13 := hid o13
              have O14 := hid (O12.out.up u13 fun _ _ _ => id)
              have V13 := hid (V12.out.trans u13)
              clear o13 u13 V12 HX12 O12
              go_wp2_with fail
              refine (sameInts_yes _ _ U3 k3 v3 v4 w13 hn64 O14.out O13.out).mono ?_
              rintro e w14 ⟨rfl, u14⟩
              have HX14 := hid (HX13.out.nxt u14)
              have V14 := hid (V13.out.trans u14)
              clear u14 HX13 V13 O13 O14
              have HRR : Hid (∀ s, s < L → ∃ g1 g2 x y z, a8 = some ⟨g1, 0, none⟩ ∧ a9 = some ⟨g2, 0, none⟩ ∧ ∀ W, Up Nul w9 W → W.rangeAt g1 (s * 3) [.int .i64 x, .int .i64 y, .int .i64 z] ∧ W.rangeAt g2 (s * 3) [.int .i64 x, .int .i64 y, .int .i64 z]) := fun s hs => by
                have hs' : s < l.length := by rw [LL.out]; exact hs
                obtain ⟨g1, k1, e1, l1, r1⟩ := OwnK.at O3.out hs'
                obtain ⟨g2, k2, e2, l2, r2⟩ := OwnK.at O2.out hs'
                injection e1 with e1
                injection e2 with e2
                exact ⟨g1, g2, _, _, _, e1, e2, fun W u => ⟨fun m x hm => (u.cell (p := ⟨g1, s * 3 + m, none⟩) l1 id).trans (r1 m x hm), fun m x hm => (u.cell (p := ⟨g2, s * 3 + m, none⟩) l2 id).trans (r2 m x hm)⟩⟩
              clear O2 O3 HX9 hll hff
              go_wp2_with fail
              go_loopw [21] (fun i wr => ∃ s : Nat, s ≤ L ∧ i = .int .i64 (s : Nat) ∧ Up Nul w14 wr) (fun i _ => L - (intOf i).toNat)
              case atStart => exact ⟨0, Nat.zero_le _, rfl, Up.refl _ _⟩
              case round =>
                obtain ⟨s, hs, rfl, hu⟩ := hrel
                have HV := hid hu
                clear hu
                have t0 : (0 : Int) ≤ (s : Int) := by omega
                have t2 : (s : Int) ≤ 64 := by have := HL.out; omega
                by_cases hsn : s < L
                · have t1 : (s : Int) < (L : Int) := by omega
                  obtain ⟨g1, g2, x, y, z, rfl, rfl, hr⟩ := HRR.out s hsn
                  have HR3 := hid hr
                  have HSN := hid hsn
                  have UD : Hid (Up Nul w9 wr.drew) := (V14.out.trans HV.out).drew
                  clear hr hsn hs
                  go_upto_region 52 with fail
                  refine wp_region_held_drew (S := (fun W => W.rangeAt g1 (s * 3) [.int .i64 x, .int .i64 y, .int .i64 z] ∧ W.rangeAt g2 (s * 3) [.int .i64 x, .int .i64 y, .int .i64 z])) (by kernel_rfl) (by exact HR3.out _ UD.out) (fun hHeld => ?_)
                  refine wpAnyH_take (i := 0) (oi := ⟨some 239, _, _, _, _, _⟩) (v := ?vz1) rfl (by kernel_rfl) (by kernel_rfl) (by kernel_rfl) (fun _ _ _ h => h) (Or.inl ⟨by rfl, ?yz1⟩) (by assumption) ?rz1
                  case yz1 => (intro w hSw; (try dsimp only at hSw); go_simp; try with_reducible rfl)
                  try simp only [Act.put, List.setIfInBounds_toArray, List.set_cons_zero, List.set_cons_succ]
                  refine wpAnyH_take (i := 1) (oi := ⟨some 240, _, _, _, _, _⟩) (v := ?vz2) rfl (by kernel_rfl) (by kernel_rfl) (by kernel_rfl) (fun _ _ _ h => h) (Or.inl ⟨by rfl, ?yz2⟩) (by assumption) ?rz2
                  case yz2 => (intro w hSw; (try dsimp only at hSw); go_simp; try with_reducible rfl)
                  try simp only [Act.put, List.setIfInBounds_toArray, List.set_cons_zero, List.set_cons_succ]
                  refine wpAnyH_take (i := 2) (oi := ⟨some 241, _, _, _, _, _⟩) (v := ?vz3) rfl (by kernel_rfl) (by kernel_rfl) (by kernel_rfl) (fun _ _ _ h => h) (Or.inl ⟨by rfl, ?yz3⟩) (by assumption) ?rz3
                  case yz3 => (intro w hSw; (try dsimp only at hSw); go_simp; try with_reducible rfl)
                  try simp only [Act.put, List.setIfInBounds_toArray, List.set_cons_zero, List.set_cons_succ]
                  refine wpAnyH_take (i := 4) (oi := ⟨some 243, _, _, _, _, _⟩) (v := ?vz4) rfl (by kernel_rfl) (by kernel_rfl) (by kernel_rfl) (fun _ _ _ h => h) (Or.inl ⟨by rfl, ?yz4⟩) (by assumption) ?rz4
                  case yz4 => (intro w hSw; (try dsimp only at hSw); go_simp; try with_reducible rfl)
                  try simp only [Act.put, List.setIfInBounds_toArray, List.set_cons_zero, List.set_cons_succ]
                  refine wpAnyH_take (i := 5) (oi := ⟨some 244, _, _, _, _, _⟩) (v := ?vz5) rfl (by kernel_rfl) (by kernel_rfl) (by kernel_rfl) (fun _ _ _ h => h) (Or.inl ⟨by rfl, ?yz5⟩) (by assumption) ?rz5
                  case yz5 => (intro w hSw; (try dsimp only at hSw); go_simp; try with_reducible rfl)
                  try simp only [Act.put, List.setIfInBounds_toArray, List.set_cons_zero, List.set_cons_succ]
                  refine wpAnyH_take (i := 6) (oi := ⟨some 245, _, _, _, _, _⟩) (v := ?vz6) rfl (by kernel_rfl) (by kernel_rfl) (by kernel_rfl) (fun _ _ _ h => h) (Or.inl ⟨by rfl, ?yz6⟩) (by assumption) ?rz6
                  case yz6 => (intro w hSw; (try dsimp only at hSw); go_simp; try with_reducible rfl)
                  try simp only [Act.put, List.setIfInBounds_toArray, List.set_cons_zero, List.set_cons_succ]
                  refine wpAnyH_take (i := 3) (oi := ⟨some 242, _, _, _, _, _⟩) rfl (by kernel_rfl) (by kernel_rfl) (by kernel_rfl) (fun _ _ _ h => h) (yieldsIf_load_mid (by rfl) 38 (.tmp 241) rfl g1 (s * 3) rfl [.int .i64 x, .int .i64 y, .int .i64 z] _ (fun W hW => hW.1) Try.underlying38 rfl info_ck3) (by assumption) ?rz7
                  try simp only [Act.put, List.setIfInBounds_toArray, List.set_cons_zero, List.set_cons_succ]
                  refine wpAnyH_take (i := 7) (oi := ⟨some 246, _, _, _, _, _⟩) rfl (by kernel_rfl) (by kernel_rfl) (by kernel_rfl) (fun _ _ _ h => h) (yieldsIf_load_mid (by rfl) 38 (.tmp 245) rfl g2 (s * 3) rfl [.int .i64 x, .int .i64 y, .int .i64 z] _ (fun W hW => hW.2) Try.underlying38 rfl info_ck3) (by assumption) ?rz8
                  try simp only [Act.put, List.setIfInBounds_toArray, List.set_cons_zero, List.set_cons_succ]
                  refine wpAnyH_take (i := 8) (oi := ⟨some 247, _, _, _, _, _⟩) (v := ?vz9) rfl (by kernel_rfl) (by kernel_rfl) (by kernel_rfl) (fun _ _ _ h => h) (Or.inl ⟨by rfl, ?yz9⟩) (by assumption) ?rz9
                  case yz9 => (intro w hSw; (try dsimp only at hSw); go_simp; try with_reducible rfl)
                  try simp only [Act.put, List.setIfInBounds_toArray, List.set_cons_zero, List.set_cons_succ]
                  refine wpAnyH_done (by kernel_rfl) ?_ _
                  go_wp2_with fail
                  go_roundw
                  case rel => exact ⟨s + 1, HSN.out, by go_num, HV.out.drew⟩
                  case measure => have := HSN.out; simp [intOf]; omega
                · obtain rfl : s = L := by omega
                  go_wp2_with fail
                  go_roundw
                  case rel => exact ⟨j + 1, h60, hlj, by go_num, U3, F3, HX14.out.nxt HV.out⟩
                  case measure => simp [intOf]; omega
        · obtain rfl : j = 60 := by omega
          as_aux_lemma =>
            go_wp2_with fail
            go_ret
            exact ⟨rfl, HP.out.px.up.below (Nat.le_refl _) fun _ _ => id⟩
      · obtain rfl : j = len1 := by omega
        as_aux_lemma =>
          go_wp2_with fail
          go_ret
          exact ⟨rfl, HP.out.px.up.below (Nat.le_refl _) fun _ _ => id⟩
end Go.Proofs.Ytfmgbmpdifjliaa
