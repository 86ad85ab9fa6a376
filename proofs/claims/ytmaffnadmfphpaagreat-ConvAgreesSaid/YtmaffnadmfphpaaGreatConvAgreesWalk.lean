/- The law ConvAgrees, walked. -/
import Derived.Test.YtmaffnadmfphpaaGreatConvAgreesParts
namespace Go.Proofs.YtmaffnadmfphpaaGreat
open Go.RowKit
set_option linter.unusedVariables false

theorem s_size (w : World) : (sizeOf (Tryz.prog.elem 30)).run Tryz.prog w = .ok 1 w := by
  have h0 : (Tryz.prog.info? (Tryz.prog.elem 30)).map (·.size) = some 1 := by kernel_rfl
  obtain ⟨i, hi, hs⟩ := Option.map_eq_some_iff.1 h0
  simp [sizeOf, typeInfo, hi, hs]
theorem s_lo (g c : Nat) (hc : 6 ≤ c) (w : World) : (Instr.slice 30 (.slice (some ⟨g, 0, none⟩) 6 c) none (some (.int .i64 4)) none).run Tryz.prog w = .ok (.slice (some ⟨g, 0, none⟩) 4 c) w := by
  rw [run_slice_h (P := Tryz.prog) (w := w) 30 (some ⟨g, 0, none⟩) 6 c (by kernel_rfl) .i64 4 (by omega) (by omega), s_size]
  have h0 : ¬ c = 0 := by omega
  have e : Addr.add ⟨g, 0, none⟩ 0 = ⟨g, 0, none⟩ := by rw [add_at]
  simp [Result.andThen, sliced, h0, e]
theorem s_hi (g c : Nat) (hc : 6 ≤ c) (w : World) : (Instr.slice 30 (.slice (some ⟨g, 0, none⟩) 6 c) (some (.int .i64 4)) none none).run Tryz.prog w = .ok (.slice (some ⟨g, 4, none⟩) 2 (c - 4)) w := by
  rw [run_slice_l (P := Tryz.prog) (w := w) 30 (some ⟨g, 0, none⟩) 6 c (by kernel_rfl) .i64 4 (by omega) (by omega), s_size]
  have h0 : ¬ c = 4 := by omega
  have e : Addr.add ⟨g, 0, none⟩ 4 = ⟨g, 4, none⟩ := by rw [add_at, Nat.zero_add]
  simp [Result.andThen, sliced, h0, e]
theorem LL.go1 {w w' : World} {go F g o n : Nat} {R : Nat → List Nat} (h : LL [go, F] w g o n fun i => some (R i)) (m : Nxt [F] w w') : LL [go, F] w' g o n fun i => some (R i) :=
  h.upf m.up fun k hk => List.mem_cons_of_mem _ hk
theorem LL.one {w : World} {go F g o n : Nat} {R : Nat → List Nat} (h : LL [go, F] w g o n fun i => some (R i)) : LL [F] w g o n fun i => some (R i) := h.weak fun k hk => List.mem_cons_of_mem _ hk
theorem St2.nF2 {w0 w : World} {FS : List Nat} {g n : Nat} {R : Nat → List Nat} (hs : LS w0 FS w) (h : St2 w g n R) (n1 : 0 < n) : g ∉ FS := fun hm => by
  have c := h.cells 0 n1
  rcases hs.fld g hm with h1 | h1
  · rw [h1.done] at c; cases c
  · rw [h1.done] at c; cases c
/-- Where the law stands behind its stripes. -/
structure AG (w0 w : World) (F go : Nat) (G C : Nat → Nat) (L : Nat) (z : List Nat) : Prop where
  ls : LS w0 [F] w
  ss : SS [F] w go G C L z
  lg : ∀ t, t < 3 → LL [go, F] w (G t) 0 6 fun i => some (stp L z t i)
  fr : ∀ j, w.frozen? ⟨go, j, none⟩ = false
theorem AG.nxt {w0 w w' : World} {F go : Nat} {G C : Nat → Nat} {L : Nat} {z : List Nat} (h : AG w0 w F go G C L z) (m : Nxt [F] w w') : AG w0 w' F go G C L z :=
  ⟨h.ls.nxt m, h.ss.nxt m, fun t ht => (h.lg t ht).go1 m, fun j => (m.up.froz (p := ⟨go, j, none⟩) h.ss.lt h.ss.b).trans (h.fr j)⟩
/-- What the law holds at its end. -/
structure AE (w0 w : World) (F gp gq gs2 g S hA L t : Nat) (z : List Nat) : Prop where
  ls : LS w0 [F] w
  lp : LL [F] w gp 0 4 fun j => some (wst L z (14 + j))
  lq : LL [F] w gq 0 4 fun j => some (wst L z (14 + j))
  l2 : LL [F] w gs2 0 2 fun j => some (stp L z t (4 + j))
  lg : LL [F] w g 4 2 fun j => some (stp L z t (4 + j))
  lS : LL [F] w S 0 2 fun j => some (stp L z t (4 + j))
  lA : LL [F] w hA 0 14 fun i => some (wst L z i)
theorem AE.nxt {w0 w w' : World} {F gp gq gs2 g S hA L t : Nat} {z : List Nat} (h : AE w0 w F gp gq gs2 g S hA L t z) (m : Nxt [F] w w') : AE w0 w' F gp gq gs2 g S hA L t z :=
  ⟨h.ls.nxt m, h.lp.nxt m, h.lq.nxt m, h.l2.nxt m, h.lg.nxt m, h.lS.nxt m, h.lA.nxt m⟩
theorem AE.stored {w0 w : World} {F gp gq gs2 g S hA L t : Nat} {z : List Nat} (h : AE w0 w F gp gq gs2 g S hA L t z) (cA : Nat) (lR : ∀ i, (wst L z i).length = L) (L1 : 1 ≤ L) (L64 : L ≤ 64) :
    Calls Tryz.prog 17 #[.slice (some ⟨hA, 0, none⟩) 14 cA, .slice (some ⟨gp, 0, none⟩) 4 4] w
      fun e w' => ∃ h c, e = .returned (.slice (some ⟨h, 0, none⟩) 18 c) ∧ Up Nul w w' := by
  refine (cstoredL [F] w0 w hA 0 14 cA gp 0 4 4 L (wst L z) h.ls h.lA h.lp (fun i _ => lR i) (by omega) (by omega) (by omega) (by omega) L1 L64).mono ?_
  rintro e w' ⟨h, c, rfl, _, u⟩
  exact ⟨h, c, rfl, u⟩
set_option maxRecDepth 100000 in
set_option maxHeartbeats 6400000 in
theorem agrees_short (a1 a2 : Int) (a : Option Addr) (n cap : Nat) (z : List Nat) (w : World) (hn : n ≤ 1000) (hz : SlN w a n z) :
    Calls Tryz.prog 3 #[.slice a n cap, .int .i64 a1, .int .i64 a2] w fun e w' => e = .returned (.bool true) ∧ Below w.heap.size w w' := by
  have HZ := hid hz
  obtain ⟨L, hL, L1, L64⟩ := i64_and63 a1
  have HSD : Hid (∀ i u, (dat L z i).getD u 0 < 256) := dat_small fun i => hz.small i
  clear hz
  obtain ⟨y, hy, _⟩ := i64_and255 a2
  have et : (y : Int).tmod 3 = ((y % 3 : Nat) : Int) := by rw [Int.tmod_eq_emod_of_nonneg (by omega)]; simp
  have em : (y : Int) % 3 = ((y % 3 : Nat) : Int) := by simp
  have ht3 : y % 3 < 3 := Nat.mod_lt _ (by omega)
  generalize y % 3 = t at et em ht3
  have HT := hid ht3
  have i1 : (0 : Int) ≤ (t : Int) := by omega
  have i2 : (t : Int) < 3 := by omega
  clear ht3
  go_enter Tryz.func3, Tryz.ntmps3
  go_wp2_with fail
  refine (gfNewF _).mono ?_
  rintro e w2 ⟨F, rfl, k2⟩
  have H2 := hid ((LS.start w).newF k2)
  have HFM : Hid (F ∈ [F]) := List.mem_cons_self ..
  clear k2
  go_wp2_with fail
  refine (stripesL (L := L) H2.out HZ.out L1 L64).mono ?_
  rintro e w3 ⟨go, co, gs, cs, G, C, rfl, ho, tl, ss, st, u3⟩
  have n3 := H2.out.nul u3
  obtain ⟨_, _, ego, gob, gol, _, gof, goc⟩ := ho.row (by rw [strp_length]; omega)
  cases ego
  rw [strp_length] at goc
  have H3 : Hid (AG w w3 F go G C L z ∧ St2 w3 gs 12 (dat L z)) := ⟨⟨H2.out.nxt n3, ss, fun s hs => (tl s hs).more (ho.typ rfl), gof⟩, st⟩
  have HGO : Hid (w.heap.size ≤ go ∧ go < w3.heap.size ∧ 3 ≤ co ∧ F < w3.heap.size) := ⟨Nat.le_trans H2.out.up.size gob, gol, goc, Nat.lt_of_lt_of_le (H2.out.fld F HFM.out).lt u3.size⟩
  have HNF : Hid (gs ∉ [F]) := st.nF2 (H2.out.nxt n3) (by omega)
  have HAV : Hid (∀ x, w3.heap.size ≤ x → x ∉ [go, F]) := fun x hx hm => by
    have h1 := HGO.out.2.1
    have h2 := HGO.out.2.2.2
    rcases List.mem_cons.1 hm with e | hm
    · omega
    · have : x = F := by simpa using hm
      omega
  clear ho tl ss st n3 u3 gob gol gof goc H2
  go_wp2_with fail
  refine (cmergeL [F] w w3 F go co L G (fun _ => 0) C (stp L z) H3.out.1.ls HFM.out H3.out.1.ss.lt H3.out.1.ss.b (fun i hi => H3.out.1.ss.cell i hi) (fun i hi => H3.out.1.ss.ll i hi) (fun _ _ _ _ => stp_length _ _ _ _) L1 L64 (fun i hi => by have := H3.out.1.ss.cap i hi; omega)).mono ?_
  rintro e w4 ⟨gp, rfl, lp, n4⟩
  have H4 : Hid (AG w w4 F go G C L z ∧ (LL [go, F] w4 gp 0 4 fun j => some (wst L z (14 + j))) ∧ St2 w4 gs 12 (dat L z)) := ⟨H3.out.1.nxt n4, (lp [go, F] HAV.out).congr fun j _ => by rw [merged_wide], ⟨fun i hi => (n4.up.cell (p := ⟨gs, i, none⟩) H3.out.2.lt HNF.out).trans (H3.out.2.cells i hi), Nat.lt_of_lt_of_le H3.out.2.lt n4.up.size⟩⟩
  have HS4 := hid n4.up.size
  clear lp n4 H3
  go_wp2_with fail
  refine (wideL H4.out.1.ls HFM.out).mono ?_
  rintro e w5 ⟨c, pp, pq, sp, sq, rfl, hc, n5⟩
  have H5 : Hid (AG w w5 F go G C L z ∧ CD [F] w5 c F 14 4 pp pq sp sq widZ ∧ (LL [go, F] w5 gp 0 4 fun j => some (wst L z (14 + j))) ∧ St2 w5 gs 12 (dat L z)) := ⟨H4.out.1.nxt n5, hc, H4.out.2.1.go1 n5, ⟨fun i hi => (n5.up.cell (p := ⟨gs, i, none⟩) H4.out.2.2.lt HNF.out).trans (H4.out.2.2.cells i hi), Nat.lt_of_lt_of_le H4.out.2.2.lt n5.up.size⟩⟩
  have HAV5 : Hid (∀ x, w5.heap.size ≤ x → x ∉ [go, F]) := fun x hx => HAV.out x (Nat.le_trans (Nat.le_trans HS4.out n5.up.size) hx)
  clear hc n5 H4 HS4
  obtain ⟨D, HD⟩ : ∃ D, Hid (D = dat L z) := ⟨_, rfl⟩
  rw [← HD.out] at H5 HSD
  have HDL : Hid (∀ i, (D i).length = L) := fun i => by rw [HD.out]; exact dat_length _ _ _
  go_wp2_with fail
  go_loopw [14, 15] (fun v i wr => ∃ k : Nat, k ≤ 12 ∧ i = .int .i64 k ∧ ∃ q c, WrL L w5 k v q c D wr) (fun _ i _ => 12 - (intOf i).toNat)
  case atStart => exact ⟨0, by omega, rfl, id, id, OwnV.nil _ _ _, fun _ h => absurd h (Nat.not_lt_zero _), Up.refl _ _⟩
  case round =>
    obtain ⟨k, hk, rfl, q, cq, hw⟩ := hrel
    have HW := hid hw
    clear hw
    by_cases hlt : k < 12
    · have s0 := (HW.out.up.cell (p := ⟨gs, k, none⟩) H5.out.2.2.2.lt id).trans (H5.out.2.2.2.cells k hlt)
      have hcv := Lib.run_convert_string_bytes (P := Tryz.prog) wr 9 22 5 (strOf (D k)) Tryz.underlying9 Tryz.underlying22 Tryz.underlying5
      have hsz : (strOf (D k)).size = L := by rw [strOf_size]; exact HDL.out k
      rw [hsz] at hcv
      obtain ⟨sk, SK⟩ : ∃ x, Hid (strOf (D k) = x) := ⟨_, rfl⟩
      rw [SK.out] at hcv s0 hsz
      have UC := hid ((Up.refl Nul wr).conv 5 sk)
      have HCV := hid (cnv (HSD.out k) SK.out (Up.refl Nul wr) (Up.refl Nul (Lib.bytesWorld wr 5 sk)))
      have i3 : (0 : Int) ≤ (k : Int) := by omega
      have i4 : (k : Int) < 12 := by omega
      have HKL : Hid ((wrVL L k q cq).length + 1 ≤ 1000000) := by show _ ≤ _; rw [wrVL_length]; omega
      go_wp2_with (at_builtin; refine wpList_append_vals Tryz.underlying30 info_sl rfl (by omega) rfl (.tmp 70) (.tmp 76) rfl w5.heap.size u14 (wrVL L k q cq) rfl (OwnV.alloc (OwnV.apart (S := Nul) HW.out.own UC.out (fun _ _ => id)) _) _ 1 1 [.slice (some ⟨wr.heap.size, 0, none⟩) L (grownCap wr L 0 5)] rfl (alloc_one _ _ _) (one_one rfl) rfl HKL.out (Nat.le_trans HW.out.up.size (UC.out.alloc _).size) ?_; intro v2 w6 G1 G2)
      go_roundw
      case rel => exact ⟨k + 1, by omega, by go_num, _, _, HW.out.next UC.out (Nat.le_refl _) HCV.out.2.1 HCV.out.2.2 G1.out G2.out⟩
      case measure => simp [intOf]; omega
    · obtain rfl : k = 12 := by omega
      obtain ⟨gd, cd, rfl, _, _, _, _, _⟩ := HW.out.own.row (by rw [wrVL_length]; omega)
      rw [wrVL_length] at HW ⊢
      have hmk : ∀ w : World, (Instr.makeSlice 22 (.int .i64 L) (.int .i64 L)).run Tryz.prog w = .ok (.slice (some ⟨w.heap.size, 0, none⟩) L L) (w.alloc (.cells (bys (zer L)) 5)) := fun w => make_bytes w L (by omega)
      have HK2 : Hid ((wrVL L 12 q cq).length + 2 ≤ 1000000) := by show _ ≤ _; rw [wrVL_length]; omega
      have HZ1 := hid (Blk.new wr _ (zer_small L))
      have HZ2 : Hid (Blk ((wr.alloc (.cells (bys (zer L)) 5)).alloc (.cells (bys (zer L)) 5)) (wr.heap.size + 1) (zer L)) := by
        have h1 := Blk.new (wr.alloc (.cells (bys (zer L)) 5)) _ (zer_small L)
        rwa [show (wr.alloc (.cells (bys (zer L)) 5)).heap.size = wr.heap.size + 1 by simp] at h1
      have HSZ : Hid (w5.heap.size ≤ wr.heap.size) := HW.out.up.size
      go_upto_region 15 with fail
      go_cut [14] (fun s14 wx => ∃ h c', s14 = .slice (some ⟨h, 0, none⟩) 14 c' ∧ (LL [go, F] wx h 0 14 fun i => some (if i < 12 then D i else zer L)) ∧ Up Nul w5 wx)
      case first =>
        as_aux_lemma =>
        go_wp2_with fail
        go_region_held3 (fun _ => True) (first | trivial | go_keep)
          ((refine step_append_vals Tryz.underlying30 info_sl rfl (by omega) (by rfl) (.tmp 78) (.tmp 83) (by rfl) w5.heap.size _ (wrVL L 12 q cq) (by rfl) (OwnV.apart (S := Nul) HW.out.own (by repeat (first | exact Up.refl Nul wr | refine Up.alloc ?_ _ | refine Up.drew ?_)) (fun _ _ => id)) _ 2 _ [_, _] (by rfl) (by first | exact alloc_two3 _ _ _ _ _ _ | exact alloc_two3d _ _ _ _ _ _) (one_two (by rfl) (by rfl)) (by rfl) HK2.out (Nat.le_trans HSZ.out (Up.size (S := Nul) (w := wr) (by repeat (first | exact Up.refl Nul wr | refine Up.alloc ?_ _ | refine Up.drew ?_)))) ?_; intro v2 w6 G1 G2; have MR := hid (WrL.more HAV5.out HW.out (by repeat (first | exact Up.refl Nul wr | refine Up.alloc ?_ _ | refine Up.drew ?_)) (fun i _ => HDL.out i) (by first | exact (HZ1.out.alloc _).alloc _ | exact ((HZ1.out.alloc _).alloc _).drew | exact HZ2.out.alloc _ | exact (HZ2.out.alloc _).drew) (by first | exact (HZ1.out.alloc _).alloc _ | exact ((HZ1.out.alloc _).alloc _).drew | exact HZ2.out.alloc _ | exact (HZ2.out.alloc _).drew) (by first | exact HSZ.out | exact Nat.le_succ_of_le HSZ.out) (by first | exact HSZ.out | exact Nat.le_succ_of_le HSZ.out) G1.out G2.out); obtain ⟨⟨g6, c6, rfl, lg⟩, ug⟩ := MR.out; have H6 := hid (And.intro lg ug); clear lg ug MR G1 G2))
        all_goals
          go_wp2_with fail
          go_meet
          case rel => exact ⟨g6, c6, rfl, H6.out⟩
      case rest =>
        as_aux_lemma =>
        obtain ⟨hA, cA, rfl, la, ua⟩ := hcut
        have na := H5.out.1.ls.nul ua
        have H7 : Hid (AG w wc F go G C L z ∧ CD [F] wc c F 14 4 pp pq sp sq widZ ∧ (LL [go, F] wc gp 0 4 fun j => some (wst L z (14 + j))) ∧ LL [go, F] wc hA 0 14 fun i => some (wst L z i)) := ⟨H5.out.1.nxt na, H5.out.2.1.nxt na, H5.out.2.2.1.go1 na, la.congr fun i hi => by
          unfold wst
          rw [full_low hi, dat14_stp, HD.out]⟩
        have HAVc : Hid (∀ x, wc.heap.size ≤ x → x ∉ [go, F]) := fun x hx => HAV5.out x (Nat.le_trans ua.size hx)
        have HWL : Hid (∀ i, (wst L z i).length = L) := fun i => full_len fun j _ => by
          rw [dat14_stp]
          split
          · exact dat_length _ _ _
          · exact zer_length _
        clear la ua na hmk HZ1 HZ2 HK2 HSZ HW H5
        go_wp2_with fail
        refine (encL (L := L) H7.out.1.ls H7.out.2.1 H7.out.2.2.2.one (fun i _ => HWL.out i) L64).mono ?_
        rintro e w8 ⟨gq, bq, rfl, he, n8, _⟩
        have H8 : Hid (AG w w8 F go G C L z ∧ (LL [go, F] w8 gp 0 4 fun j => some (wst L z (14 + j))) ∧ (LL [go, F] w8 hA 0 14 fun i => some (wst L z i)) ∧ LL [go, F] w8 gq 0 4 fun j => some (wst L z (14 + j))) := ⟨H7.out.1.nxt n8, H7.out.2.2.1.go1 n8, H7.out.2.2.2.go1 n8, (he.llf HAVc.out).congr fun j _ => by
          show some _ = some _
          rw [acrZ_congr (Q := dat14 L (stp L z)) fun s hs => by unfold wst; rw [full_low hs]]
          unfold wst
          rw [full_high (by omega), Nat.add_sub_cancel_left]⟩
        have HAV8 : Hid (∀ x, w8.heap.size ≤ x → x ∉ [go, F]) := fun x hx => HAVc.out x (Nat.le_trans n8.up.size hx)
        clear he n8 H7 HAVc
        obtain ⟨ov, OV⟩ : ∃ ov : Value, Hid (ov = .slice (some ⟨G t, 0, none⟩) 6 (C t)) := ⟨_, rfl⟩
        have hlo : ∀ W : World, (Instr.slice 30 ov none (some (.int .i64 4)) none).run Tryz.prog W = .ok (.slice (some ⟨G t, 0, none⟩) 4 (C t)) W := fun W => by rw [OV.out]; exact s_lo _ _ (H8.out.1.ss.cap t HT.out) W
        have hhi : ∀ W : World, (Instr.slice 30 ov (some (.int .i64 4)) none none).run Tryz.prog W = .ok (.slice (some ⟨G t, 4, none⟩) 2 (C t - 4)) W := fun W => by rw [OV.out]; exact s_hi _ _ (H8.out.1.ss.cap t HT.out) W
        have x0 : w8.cell? ⟨go, t, none⟩ = some ov := by rw [OV.out]; exact H8.out.1.ss.cell t HT.out
        go_wp2_with fail
        refine (splitL (L := L) (D := stp L z t) H8.out.1.ls HFM.out t HT.out (((H8.out.1.lg t HT.out).one.sub 0 4 (by omega)).congr fun i hi => by rw [Nat.zero_add]) (fun i _ => stp_length _ _ _ _) L64).mono ?_
        rintro e w9 ⟨gs2, rfl, ls2, n9⟩
        have H9 : Hid (AG w w9 F go G C L z ∧ (LL [go, F] w9 gp 0 4 fun j => some (wst L z (14 + j))) ∧ (LL [go, F] w9 hA 0 14 fun i => some (wst L z i)) ∧ (LL [go, F] w9 gq 0 4 fun j => some (wst L z (14 + j))) ∧ LL [go, F] w9 gs2 0 2 fun j => some (stp L z t (4 + j))) := ⟨H8.out.1.nxt n9, H8.out.2.1.go1 n9, H8.out.2.2.1.go1 n9, H8.out.2.2.2.go1 n9, (ls2 [go, F] HAV8.out).congr fun j _ => by rw [stp_parity]⟩
        clear ls2 n9 x0
        have x1 : w9.cell? ⟨go, t, none⟩ = some ov := by rw [OV.out]; exact H9.out.1.ss.cell t HT.out
        have f1 := H9.out.1.fr t
        have HUS := hid ((Up.refl (One go) w9).setCell (p := ⟨go, t, none⟩) (.inr (show One go go from rfl)) (.slice none 0 0))
        have HCO : Hid (∀ s, s < 3 → s ≠ t → (w9.setCell ⟨go, t, none⟩ (.slice none 0 0)).cell? ⟨go, s, none⟩ = some (.slice (some ⟨G s, 0, none⟩) 6 (C s))) := fun s h1 h2 =>
          (World.cell?_setCell_other _ _ _ _ (by first | exact fun e => h2 (by have := congrArg Addr.off e; exact this) | exact fun e => h2 (by have := congrArg Addr.off e; exact this.symm))).trans (H9.out.1.ss.cell s h1)
        have HLS : Hid (LS w [F] (w9.setCell ⟨go, t, none⟩ (.slice none 0 0))) := ⟨H9.out.1.ls.up.setCell (p := ⟨go, t, none⟩) (.inl HGO.out.1) _, fun F' hF' => (H9.out.1.ls.fld F' hF').up HUS.out fun e => H9.out.1.ss.b (by have e2 : F' = go := e; rw [← e2]; exact hF'), H9.out.1.ls.own⟩
        go_wp2_with fail
        generalize w9.setCell ⟨go, t, none⟩ (.slice none 0 0) = wS at *
        have HSG : Hid (∀ (g n : Nat) (R : Nat → List Nat), (LL [go, F] w9 g 0 n fun i => some (R i)) → LL [F] wS g 0 n fun i => some (R i)) := fun g n R h => (h.upf HUS.out fun k hk => by
          have : k = go := hk
          rw [this]
          exact List.mem_cons_self ..).one
        refine (peelL [F] w wS ⟨F, 0, none⟩ t gp 0 4 go co L G (fun _ => 0) C (stp L z) (fun j => wst L z (14 + j)) HLS.out HT.out HGO.out.2.2.1 ⟨HCO.out, Nat.lt_of_lt_of_le H9.out.1.ss.lt HUS.out.size, fun s h1 _ => HSG.out _ _ _ (H9.out.1.lg s h1), fun _ _ _ _ _ => stp_length _ _ _ _⟩ (HSG.out _ _ _ H9.out.2.1) (fun j _ => HWL.out _) L1 L64).mono ?_
        rintro e wX ⟨S, bS, rfl, heS, uS⟩
        have nS := HLS.out.nul uS
        have HX : Hid (AE w wX F gp gq gs2 (G t) S hA L t z) :=
          ⟨HLS.out.nxt nS, (HSG.out _ _ _ H9.out.2.1).nxt nS, (HSG.out _ _ _ H9.out.2.2.2.1).nxt nS, (HSG.out _ _ _ H9.out.2.2.2.2).nxt nS, by
            have h1 := ((HSG.out _ _ _ (H9.out.1.lg t HT.out)).nxt nS).sub 4 2 (by omega)
            rwa [Nat.zero_add] at h1, (heS.llf fun x hx => HLS.out.lt hx).congr fun j hj => by rw [peel_back L z HT.out hj], (HSG.out _ _ _ H9.out.2.2.1).nxt nS⟩
        clear nS heS uS H9 H8 HSG HCO HLS HUS x1 f1 hlo
        generalize G t = g at *
        generalize C t = cg at *
        have HD := hid (HX.out.nxt HX.out.ls.drew)
        clear HX
        go_wp2_with fail
        go_region_held3 (fun _ => True) (first | trivial | go_keep)
          ((first
            | (go_at_call 16; (with_reducible refine (stringsL HD.out.ls HD.out.lp (by omega) (by omega)).mono ?_); rintro e wA ⟨gA, cA1, rfl, stA, uA⟩; have nA := HD.out.ls.nul uA; have HA := hid (And.intro (HD.out.nxt nA) (stA)); clear nA uA stA)
            | (go_at_call 16; (with_reducible refine (stringsL HA.out.1.ls HA.out.1.lq (by omega) (by omega)).mono ?_); rintro e wB ⟨gB, cB, rfl, stB, uB⟩; have nB := HA.out.1.ls.nul uB; have HB := hid (And.intro (HA.out.1.nxt nB) (And.intro (HA.out.2.up uB) (stB))); clear nB uB stB)
            | (go_at_call 15; (with_reducible refine (same_yes _ _ _ _ _ _ _ HB.out.2.1 HB.out.2.2 (by omega)).mono ?_); rintro e wC ⟨rfl, uC⟩; have nC := HB.out.1.ls.nul uC; have HC := hid (HB.out.1.nxt nC); clear nC uC)
            | (go_at_call 16; (with_reducible refine (stringsL HC.out.ls HC.out.l2 (by omega) (by omega)).mono ?_); rintro e wE ⟨gE, cE, rfl, stE, uE⟩; have nE := HC.out.ls.nul uE; have HE := hid (And.intro (HC.out.nxt nE) (stE)); clear nE uE stE)
            | (go_at_call 16; (with_reducible refine (stringsL HE.out.1.ls HE.out.1.lg (by omega) (by omega)).mono ?_); rintro e wI ⟨gI, cI, rfl, stI, uI⟩; have nI := HE.out.1.ls.nul uI; have HI := hid (And.intro (HE.out.1.nxt nI) (And.intro (HE.out.2.up uI) (stI))); clear nI uI stI)
            | (go_at_call 15; (with_reducible refine (same_yes _ _ _ _ _ _ _ HI.out.2.1 HI.out.2.2 (by omega)).mono ?_); rintro e wJ ⟨rfl, uJ⟩; have nJ := HI.out.1.ls.nul uJ; have HJ := hid (HI.out.1.nxt nJ); clear nJ uJ)
            | (go_at_call 16; (with_reducible refine (stringsL HJ.out.ls HJ.out.lS (by omega) (by omega)).mono ?_); rintro e wK ⟨gK, cK, rfl, stK, uK⟩; have nK := HJ.out.ls.nul uK; have HK := hid (And.intro (HJ.out.nxt nK) (stK)); clear nK uK stK)
            | (go_at_call 16; (with_reducible refine (stringsL HK.out.1.ls HK.out.1.lg (by omega) (by omega)).mono ?_); rintro e wM ⟨gM, cM, rfl, stM, uM⟩; have nM := HK.out.1.ls.nul uM; have HM := hid (And.intro (HK.out.1.nxt nM) (And.intro (HK.out.2.up uM) (stM))); clear nM uM stM)
            | (go_at_call 15; (with_reducible refine (same_yes _ _ _ _ _ _ _ HM.out.2.1 HM.out.2.2 (by omega)).mono ?_); rintro e wO ⟨rfl, uO⟩; have nO := HM.out.1.ls.nul uO; have HO := hid (HM.out.1.nxt nO); clear nO uO)
            | (go_at_call 17; (with_reducible refine (HO.out.stored cA HWL.out L1 L64).mono ?_); rintro e wP ⟨hP, cP, rfl, uP⟩; have nP := HO.out.ls.nul uP; have HP := hid (HO.out.nxt nP); clear nP uP)
            | (go_at_call 7; (with_reducible refine (cawakeL HP.out.ls).mono ?_); rintro e wQ ⟨rfl, nQ⟩; have HQ := hid (HP.out.ls.nxt nQ); clear nQ)))
        go_wp2
        go_ret
        exact ⟨rfl, HQ.out.below⟩
theorem agrees_walk (a0 : Option Addr) (len0 cap0 : Nat) (z0 : List Int) (a1 a2 : Int) (w : World) (w0 : CameIn w a0 len0 cap0 z0) :
    Calls Tryz.prog 3 #[.slice a0 len0 cap0, .int .i64 a1, .int .i64 a2] w fun e w' => e = .returned (.bool true) ∧ Below w.heap.size w w' := by
  by_cases h : 1000 < len0
  · exact agrees_long a1 a2 a0 len0 cap0 w h
  · obtain ⟨za, hza⟩ := SlN.of w0
    exact agrees_short a1 a2 a0 len0 cap0 za w (by omega) hza
end Go.Proofs.YtmaffnadmfphpaaGreat
