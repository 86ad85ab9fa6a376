/- The law's 'Same': of two Metas that know the same. -/
import Derived.Test.YtepggchnhgpcnaaGreatDoorPkTidy
import Derived.Test.YtepggchnhgpcnaaGreatDoorPz42
import Derived.Test.YtepggchnhgpcnaaGreatDoorPz34
import Derived.Test.YtepggchnhgpcnaaGreatDoorPz12
import Derived.Deep.MidRow
import Derived.Deep.DeepCutAuto
namespace Go.Proofs.YtepggchnhgpcnaaGreatDoor
open Go.RowKit Go.Maps Go.Sort
set_option linter.unusedVariables false
set_option linter.unusedSimpArgs false

section
variable {w w' : World} {p bm bs q n n2 : Nat} {Q Q2 : Int → Value} {M : MM} {F F2 : Nat → Prop} {ks : List ByteArray} {is : List Int} {kv bv iv sv : Value}
set_option maxRecDepth 100000 in
set_option maxHeartbeats 40000000 in
theorem lsame_any (h : MT F w p bm bs n Q M) (hr : RM F2 w q n2 Q2 M ks is kv bv iv sv) (hI : M.Inv3) (hn : n ≤ 5000) (hn2 : n2 ≤ 5000) :
  Calls Tryz.prog 13 #[.pointer (some ⟨p, 0, none⟩), .pointer (some ⟨q, 0, none⟩)] w fun e w' => e = .returned (.bool true) ∧ Up Nul w w' := by
 obtain ⟨kva, kvc, rfl, _, hkv, _⟩ := ownsRow.rd hr.rr.ko (kcells_one ks)
 obtain ⟨iva, ivc, rfl, _, hiv, _⟩ := ownsRow.rd hr.rr.io (intV_one is)
 obtain ⟨bva, bvc, rfl, hbr⟩ := hr.brow
 obtain ⟨sva, svc, rfl, hsr⟩ := hr.srow
 obtain ⟨c0, c1, c2, c3, c4⟩ := hr.cells
 have HM := hid h
 have HR := hid hr
 have HI := hid hI
 have HN := hid hn
 have HN2 := hid hn2
 have HBR := hid hbr
 have HSR := hid hsr
 have HNK : Hid (ks.length ≤ 5000) := by have := hr.nk; show ks.length ≤ 5000; omega
 have HNI : Hid (is.length ≤ 5000) := by have := hr.ni; show is.length ≤ 5000; omega
 have HNL : Hid ((M.allLocs is).length ≤ 80000) := by have h1 := allLocs_few hI is; have h2 := HNI.out; show _ ≤ _; omega
 have HLS : Hid (M.last ≤ 2147483647 ∧ 0 ≤ M.last) := ⟨hI.l.2, hI.l.1⟩
 have RT : Hid (∀ V, Up Nul w V → V.rangeAt q 5 [.int .i64 M.t.hot, .int .i64 M.t.warm, .int .i64 M.t.gap, .int .i64 M.t.add, .int .i64 M.t.top, .int .i64 M.t.half]) := fun V u j v hj => by
  have hq := u.keep hr.hp id
  simp only [World.cell?, hq]
  have h6 : j < 6 := by
   rcases Nat.lt_or_ge j 6 with h | h
   ·exact h
   ·rw [List.getElem?_eq_none (by simpa using h)] at hj; cases hj
  have : j = 0 ∨ j = 1 ∨ j = 2 ∨ j = 3 ∨ j = 4 ∨ j = 5 := by omega
  rcases this with rfl | rfl | rfl | rfl | rfl | rfl <;> exact hj
 obtain ⟨nk, NK⟩ : ∃ x, Hid (ks.length = x) := ⟨_, rfl⟩
 obtain ⟨ni, NI⟩ : ∃ x, Hid (is.length = x) := ⟨_, rfl⟩
 obtain ⟨nl, NL⟩ : ∃ x, Hid ((M.allLocs is).length = x) := ⟨_, rfl⟩
 obtain ⟨L, LL⟩ : ∃ x, Hid (M.last + 1 = x) := ⟨_, rfl⟩
 rw [NK.out] at c0 c1
 rw [NI.out] at c2 c3
 rw [LL.out] at c4
 have HKV := hid hkv
 have HIV := hid hiv
 have HQ : Hid (∀ V, Up Nul w V → V.cell? ⟨q, 0, none⟩ = some (.slice kva nk kvc) ∧ V.cell? ⟨q, 1, none⟩ = some (.slice bva nk bvc) ∧ V.cell? ⟨q, 2, none⟩ = some (.slice iva ni ivc) ∧ V.cell? ⟨q, 3, none⟩ = some (.slice sva ni svc) ∧ V.cell? ⟨q, 4, none⟩ = some (.int .i64 L)) := fun V u =>
  ⟨(u.cell (p := ⟨q, 0, none⟩) (lt_of_cell c0) id).trans c0, (u.cell (p := ⟨q, 1, none⟩) (lt_of_cell c1) id).trans c1, (u.cell (p := ⟨q, 2, none⟩) (lt_of_cell c2) id).trans c2, (u.cell (p := ⟨q, 3, none⟩) (lt_of_cell c3) id).trans c3, (u.cell (p := ⟨q, 4, none⟩) (lt_of_cell c4) id).trans c4⟩
 rw [NK.out] at HKV
 rw [NI.out] at HIV
 clear h hr hI hn hn2 hkv hiv hbr hsr c0 c1 c2 c3 c4
 go_enter Tryz.func13, Tryz.ntmps13
 go_upto_region 1 with fail
 go_cut [54] (fun s54 wx => s54 = .bool false ∧ Up Nul w wx)
 case first =>
  as_aux_lemma =>
   skip
   refine wp_region_held_drew (S := (fun V => Up Nul w V)) (by kernel_rfl) (by exact (Up.refl Nul w).drew) (fun hHeld => ?_)
   refine tkv 0 (some 11) rfl ?_
   refine tkv 2 (some 13) rfl ?_
   refine tkv 3 (some 14) rfl ?_
   refine tkv 4 (some 15) rfl ?_
   refine tkl 5 (some 16) ?va5 rfl ?ya5 ?ra5
   case ya5 => (intro w hSw; (try dsimp only at hSw); obtain ⟨q0, q1, q2, q3, q4⟩ := HQ.out _ hSw; go_simp; try with_reducible rfl)
   try simp only [tdy]
   refine one 1 (some 12) rfl (fun K hK => ?_)
   go_simp
   go_at_call 14
   refine (keys_any (HM.out.nxt hHeld) (by have := HN.out; omega)).mono ?_
   rintro e wb ⟨vk, ks', rfl, hko, hks, hkl, ub⟩
   obtain rfl := ks_eq HI.out hks HR.out.rr.rk
   obtain ⟨ka, kc, rfl, _, hkr, _⟩ := ownsRow.rd (ownK hko) (kcells_one ks')
   have HKR := hid hkr
   rw [NK.out]
   have HUK := hid (hHeld.trans ub)
   clear hko hks hkl hkr
   refine hK.out _ _ (HUK.out) (fun hHeld => ?_)
   clear hK K
   try simp only [tdy]
   refine one 6 (some 17) rfl (fun K hK => ?_)
   go_simp
   go_at_call 39
   have hsm := rsame_yes ka kva kc kvc _ _ HKR.out (by rw [NK.out]; exact HKV.out.nxt hHeld) (by have := HNK.out; have := NK.out; omega)
   rw [NK.out] at hsm
   refine hsm.mono ?_
   rintro e wb ⟨rfl, ub⟩
   have HUK := hid (hHeld.trans ub)
   clear hsm ub
   refine hK.out _ _ (HUK.out) (fun hHeld => ?_)
   clear hK K
   try simp only [tdy]
   refine tkv 7 (some 18) rfl ?_
   refine tkv 8 (some 19) rfl ?_
   refine tkv 9 (some 20) rfl ?_
   refine tkv 11 (some 22) rfl ?_
   refine tkv 12 (some 23) rfl ?_
   refine tkv 13 (some 24) rfl ?_
   refine tkl 14 (some 25) ?va14 rfl ?ya14 ?ra14
   case ya14 => (intro w hSw; (try dsimp only at hSw); obtain ⟨q0, q1, q2, q3, q4⟩ := HQ.out _ hSw; go_simp; try with_reducible rfl)
   try simp only [tdy]
   refine one 10 (some 21) rfl (fun K hK => ?_)
   go_simp
   go_at_call 15
   refine (sids_any (HM.out.nxt hHeld) (by have := HN.out; omega)).mono ?_
   rintro e wb ⟨vs, is', rfl, hio, his, hil, ub⟩
   obtain rfl := is_eq HI.out his HR.out.rr.ri
   obtain ⟨ia, ic, rfl, _, hir, _⟩ := ownsRow.rd (ownIs hio) (intV_one is')
   have HIR := hid hir
   rw [NI.out]
   have HUK := hid (hHeld.trans ub)
   clear hio his hil hir
   refine hK.out _ _ (HUK.out) (fun hHeld => ?_)
   clear hK K
   try simp only [tdy]
   refine one 15 (some 26) rfl (fun K hK => ?_)
   go_simp
   go_at_call 40
   have hsm := sints_any _ ia iva ic ivc _ _ (rowI_rd HIR.out) (rowI_rd (HIV.out.nxt hHeld)) (by have := HNI.out; have := NI.out; omega) (by have := HNI.out; have := NI.out; omega)
   rw [NI.out, decide_eq_true rfl] at hsm
   refine hsm.mono ?_
   rintro e wb ⟨rfl, ub⟩
   have HUK := hid (hHeld.trans ub)
   clear hsm ub
   refine hK.out _ _ (HUK.out) (fun hHeld => ?_)
   clear hK K
   try simp only [tdy]
   refine tkv 16 (some 27) rfl ?_
   refine tkv 17 (some 28) rfl ?_
   refine tkv 18 (some 29) rfl ?_
   refine tkv 19 (some 30) rfl ?_
   refine tkv 21 (some 32) rfl ?_
   refine tkv 22 (some 33) rfl ?_
   refine tkv 23 (some 34) rfl ?_
   refine tkl 24 (some 35) ?va24 rfl ?ya24 ?ra24
   case ya24 => (intro w hSw; (try dsimp only at hSw); obtain ⟨q0, q1, q2, q3, q4⟩ := HQ.out _ hSw; go_simp; try with_reducible rfl)
   try simp only [tdy]
   refine one 20 (some 31) rfl (fun K hK => ?_)
   go_simp
   go_at_call 17
   have hsm := next_any (HM.out.nxt hHeld) HLS.out
   rw [LL.out] at hsm
   refine hsm.mono ?_
   rintro e wb ⟨rfl, rfl⟩
   have HUK := hid hHeld
   clear hsm
   refine hK.out _ _ (HUK.out) (fun hHeld => ?_)
   clear hK K
   try simp only [tdy]
   refine tkv 25 (some 36) rfl ?_
   refine tkv 26 (some 37) rfl ?_
   refine tkv 27 (some 38) rfl ?_
   refine tkv 28 (some 39) rfl ?_
   refine tkv 30 (some 41) rfl ?_
   refine tkv 31 (some 42) rfl ?_
   refine tkv 32 (some 43) rfl ?_
   refine wpAnyH_take (i := 33) (oi := ⟨some 44, _, _, _, _, _⟩) rfl (by kernel_rfl) (by kernel_rfl) (by kernel_rfl) (fun _ _ _ h => h) (yieldsIf_load_mid (by rfl) 26 (.tmp 43) rfl q (5) rfl [.int .i64 M.t.hot, .int .i64 M.t.warm, .int .i64 M.t.gap, .int .i64 M.t.add, .int .i64 M.t.top, .int .i64 M.t.half] _ (fun W hW => RT.out W hW) Tryz.underlying26 rfl (by kernel_rfl)) (by assumption) ?ra33
   try simp only [tdy]
   refine one 29 (some 40) rfl (fun K hK => ?_)
   go_simp
   go_at_call 41
   refine (mtable_any (HM.out.nxt hHeld)).mono ?_
   rintro e wb ⟨rfl, ub⟩
   have HUK := hid (hHeld.trans ub)
   clear ub
   refine hK.out _ _ (HUK.out) (fun hHeld => ?_)
   clear hK K
   try simp only [tdy]
   refine wpAnyH_take (i := 34) (oi := ⟨some 45, _, _, _, _, _⟩) rfl (by kernel_rfl) (by kernel_rfl) (by kernel_rfl) (fun _ _ _ h => h) (Or.inl ⟨by rfl, fun W _ => exec_neq _ _ _ _ _ _ rfl _ _ rfl rfl (by kernel_rfl) _ _ (tb_neq W _ _ _ _ _ _)⟩) (by assumption) ?ra35
   try simp only [tdy]
   refine tkv 35 (some 46) rfl ?_
   refine tkv 36 (some 47) rfl ?_
   refine tkv 37 (some 48) rfl ?_
   refine tkv 39 (some 50) rfl ?_
   refine one 38 (some 49) rfl (fun K hK => ?_)
   go_simp
   go_at_call 43
   refine (locs_big (HM.out.nxt hHeld) HN.out HI.out).mono ?_
   rintro e wb ⟨vl, is', rfl, his, hil, hlo, ub⟩
   obtain rfl := is_eq HI.out his HR.out.rr.ri
   obtain ⟨la, lc, rfl, hlr⟩ := OwnLo.row hlo
   have HLR := hid hlr
   rw [NL.out]
   have HUK := hid (hHeld.trans ub)
   clear his hil hlo hlr
   refine hK.out _ _ (HUK.out) (fun hHeld => ?_)
   clear hK K
   try simp only [tdy]
   refine one 40 (some 51) rfl (fun K hK => ?_)
   go_simp
   go_at_call 44
   refine (rlocs_any (HR.out.nxt hHeld) HN2.out HI.out).mono ?_
   rintro e wb ⟨vl, rfl, hlo, ub⟩
   obtain ⟨lb, ld, rfl, hlr⟩ := OwnLo.row hlo
   have HLR2 := hid hlr
   have HLR1 := hid (HLR.out.nxt ub)
   rw [NL.out]
   have HUK := hid (hHeld.trans ub)
   clear hlo hlr ub
   refine hK.out _ _ (HUK.out) (fun hHeld => ?_)
   clear hK K
   try simp only [tdy]
   refine one 41 (some 52) rfl (fun K hK => ?_)
   go_simp
   go_at_call 42
   have hsm := slocs_any _ la lb lc ld _ _ HLR1.out HLR2.out (by have := HNL.out; have := NL.out; omega) (by have := HNL.out; have := NL.out; omega)
   rw [NL.out, decide_eq_true rfl] at hsm
   refine hsm.mono ?_
   rintro e wb ⟨rfl, ub⟩
   have HUK := hid (hHeld.trans ub)
   clear hsm ub
   refine hK.out _ _ (HUK.out) (fun hHeld => ?_)
   clear hK K
   try simp only [tdy]
   refine tkv 42 (some 53) rfl ?_
   refine tkv 43 (some 54) rfl ?_
   refine wpAnyH_done (by kernel_rfl) ?_ _
   go_wp2_with fail
   go_meet
   exact ⟨rfl, hHeld⟩
 case rest =>
  obtain ⟨rfl, hu0⟩ := hcut
  have HU0 := hid hu0
  clear hu0
  go_upto_block 0 with fail
  go_cut [] (fun wx => Up Nul w wx)
  case first =>
   as_aux_lemma =>
    go_wp2_with fail
    go_loopw [5] (fun i wr => ∃ t : Nat, t ≤ nk ∧ i = .int .i64 (t : Nat) ∧ Up Nul w wr) (fun i _ => nk - (intOf i).toNat)
    case atStart => exact ⟨0, by omega, rfl, HU0.out⟩
    case round =>
    obtain ⟨t, ht, rfl, hu⟩ := hrel
    have HU := hid hu
    obtain ⟨q0, q1, q2, q3, q4⟩ := HQ.out _ hu
    have i0 : (0 : Int) ≤ (t : Int) := by omega
    have i9 : (t : Int) ≤ 5000 := by have := HNK.out; have := NK.out; omega
    by_cases hlt : t < nk
    ·have i2 : (t : Int) < (nk : Int) := by omega
     have htl : t < ks.length := by rw [NK.out]; exact hlt
     have HT := hid hlt
     obtain ⟨gk, ok, e1, _, hcell⟩ := (HKV.out.nxt hu).row (by omega)
     subst e1
     have x1 := hcell t (.string ks[t]) (by unfold kcells; rw [List.getElem?_map, List.getElem?_eq_getElem htl]; rfl)
     obtain ⟨x, hx⟩ := Option.isSome_iff_exists.1 ((HR.out.rr.rk.mem ks[t]).1 (List.getElem_mem htl))
     obtain ⟨gb, ob, e2, hgb, hb1, hb2, hb3⟩ := HBR.out t ks[t] (List.getElem?_eq_getElem htl)
     subst e2
     have hb0 : M.bof ks[t] = x := bof_some hx
     rw [hb0] at hb1 hb2 hb3
     have hsz := (HI.out.b _ _ hx).1.2
     generalize ks[t] = k at x1 hx hsz
     obtain ⟨bn, bi, bp⟩ := x
     dsimp only at hb1 hb2 hb3
     have RB10 : Hid (∀ V, Up Nul w V → V.rangeAt gb (ob + t * 3) [.int .i64 bn, .int .i64 bi, .int .i64 bp]) := fun V u j v hj => by
      have h3 : j < 3 := by
       rcases Nat.lt_or_ge j 3 with h | h
       ·exact h
       ·rw [List.getElem?_eq_none (by simpa using h)] at hj; cases hj
      have h4 : j = 0 ∨ j = 1 ∨ j = 2 := by omega
      rcases h4 with rfl | rfl | rfl
      ·cases hj; exact (u.cell (p := ⟨gb, ob + t * 3, none⟩) hgb id).trans hb1
      ·cases hj; exact (u.cell (p := ⟨gb, ob + t * 3 + 1, none⟩) hgb id).trans hb2
      ·cases hj; exact (u.cell (p := ⟨gb, ob + t * 3 + 2, none⟩) hgb id).trans hb3
     have HBL := hid (blob_is (HM.out.nxt HU.out) hx (by unfold maxLen; omega))
     clear hu hlt htl hcell hx hgb hb0 hb1 hb2 hb3 hsz
     go_wp2_with fail
     refine HBL.out.mono ?_
     rintro e w8 ⟨rfl, u8⟩
     have HU8 := hid (HU.out.trans u8)
     clear u8 HBL x1 q0 q1 q2 q3 q4
     go_upto_region 7 with fail
     obtain ⟨wA, hwA⟩ : ∃ W, W = w8.alloc (.cells #[.int .i64 bn, .int .i64 bi, .int .i64 bp] 51) := ⟨_, rfl⟩
     rw [← hwA]
     obtain ⟨pb, PB⟩ : ∃ x, Hid (w8.heap.size = x) := ⟨_, rfl⟩
     rw [PB.out]
     have hpb : wA.heap[pb]? = some (.cells #[.int .i64 bn, .int .i64 bi, .int .i64 bp] 51 (0, 0)) := by rw [hwA, ← PB.out]; exact heap_alloc_new _ _
     have HUA : Hid (Up Nul w wA) := by rw [hwA]; exact HU8.out.alloc _
     have HPB := hid hpb
     clear hwA hpb
     have RB3 : Hid (∀ V, Up Nul wA V → V.rangeAt pb 0 [.int .i64 bn, .int .i64 bi, .int .i64 bp]) := fun V u j v hj => by
      have hq := u.keep HPB.out id
      simp only [World.cell?, hq, Nat.zero_add]
      have h3 : j < 3 := by
       rcases Nat.lt_or_ge j 3 with h | h
       ·exact h
       ·rw [List.getElem?_eq_none (by simpa using h)] at hj; cases hj
      have h4 : j = 0 ∨ j = 1 ∨ j = 2 := by omega
      rcases h4 with rfl | rfl | rfl <;> exact hj
     have g9 : t < nk := HT.out
     refine wp_region_held_drew (S := (fun V => Up Nul wA V)) (by kernel_rfl) (by exact (Up.refl Nul wA).drew) (fun hHeld => ?_)
     refine tkv 0 (some 76) rfl ?_
     refine tkv 1 (some 77) rfl ?_
     refine tkv 2 (some 78) rfl ?_
     refine wpAnyH_take (i := 3) (oi := ⟨some 79, _, _, _, _, _⟩) rfl (by kernel_rfl) (by kernel_rfl) (by kernel_rfl) (fun _ _ _ h => h) (yieldsIf_load_mid (by rfl) 51 (.tmp 6) rfl pb (0) rfl [.int .i64 bn, .int .i64 bi, .int .i64 bp] _ (fun W hW => RB3.out W hW) Tryz.underlying51 rfl (by kernel_rfl)) (by assumption) ?rb4
     try simp only [tdy]
     refine tkv 4 (some 80) rfl ?_
     refine tkv 5 (some 81) rfl ?_
     refine tkv 6 (some 82) rfl ?_
     refine tkl 7 (some 83) ?vb8 rfl ?yb8 ?rb8
     case yb8 => (intro w hSw; (try dsimp only at hSw); obtain ⟨q0, q1, q2, q3, q4⟩ := HQ.out _ (HUA.out.trans hSw); go_simp; try with_reducible rfl)
     try simp only [tdy]
     refine tkv 8 (some 84) rfl ?_
     refine tkv 9 (some 85) rfl ?_
     refine wpAnyH_take (i := 10) (oi := ⟨some 86, _, _, _, _, _⟩) rfl (by kernel_rfl) (by kernel_rfl) (by kernel_rfl) (fun _ _ _ h => h) (yieldsIf_load_mid (by rfl) 51 (.tmp 85) rfl gb (ob + t * 3) rfl [.int .i64 bn, .int .i64 bi, .int .i64 bp] _ (fun W hW => RB10.out W (HUA.out.trans hW)) Tryz.underlying51 rfl (by kernel_rfl)) (by assumption) ?rb11
     try simp only [tdy]
     refine wpAnyH_take (i := 11) (oi := ⟨some 87, _, _, _, _, _⟩) rfl (by kernel_rfl) (by kernel_rfl) (by kernel_rfl) (fun _ _ _ h => h) (Or.inl ⟨by rfl, fun W _ => exec_neq _ _ _ _ _ _ rfl _ _ rfl rfl (by kernel_rfl) _ _ (bl_neq W _ _ _)⟩) (by assumption) ?rb12
     try simp only [tdy]
     refine tkv 12 (some 88) rfl ?_
     refine wpAnyH_done (by kernel_rfl) ?_ _
     go_wp2_with fail
     go_roundw
     case rel => exact ⟨t + 1, by have := HT.out; omega, by go_num, HUA.out.trans hHeld⟩
     case measure => have := HT.out; simp [intOf]; omega
    ·have i2 : ¬ (t : Int) < (nk : Int) := by omega
     clear hlt hu
     go_wp2_with fail
     go_meet
     exact HU.out
  case rest =>
   have HU1 := hid hcut
   clear hcut
   go_upto_block 2 with fail
   go_cut [] (fun wx => Up Nul w wx)
   case first =>
    as_aux_lemma =>
     go_wp2_with fail
     go_loopw [8] (fun i wr => ∃ t : Nat, t ≤ ni ∧ i = .int .i64 (t : Nat) ∧ Up Nul w wr) (fun i _ => ni - (intOf i).toNat)
     case atStart => exact ⟨0, by omega, rfl, HU1.out⟩
     case round =>
     obtain ⟨t, ht, rfl, hu⟩ := hrel
     have HU := hid hu
     obtain ⟨q0, q1, q2, q3, q4⟩ := HQ.out _ hu
     have i0 : (0 : Int) ≤ (t : Int) := by omega
     have i9 : (t : Int) ≤ 5000 := by have := HNI.out; have := NI.out; omega
     by_cases hlt : t < ni
     ·have i2 : (t : Int) < (ni : Int) := by omega
      have htl : t < is.length := by rw [NI.out]; exact hlt
      have HT := hid hlt
      obtain ⟨gi, oi, e1, _, hcell⟩ := (HIV.out.nxt hu).row (by omega)
      subst e1
      have x1 := hcell t (.int .i64 is[t]) (by unfold intV; rw [List.getElem?_map, List.getElem?_eq_getElem htl]; rfl)
      obtain ⟨s, hs⟩ := Option.isSome_iff_exists.1 ((HR.out.rr.ri.mem is[t]).1 (List.getElem_mem htl))
      obtain ⟨gv, ov, e2, hgv, hv0, hv1, hv2, hv3, hv4, hv5⟩ := HSR.out t is[t] (List.getElem?_eq_getElem htl)
      subst e2
      rw [sof_some hs] at hv0 hv1 hv2 hv3 hv4
      generalize is[t] = z at x1 hs hv5
      have hz1 := (HI.out.s z s hs).1
      have hl := HI.out.l
      have hwf : (Lit.int .i64 z).wf = true := wf_small (by omega) (by omega)
      have hfew := (HI.out.s z s hs).2.1.few
      have hrl := ((HR.out.nxt hu).rr.lo z s hs).1
      obtain ⟨qa, qc, eq, hrow⟩ := OwnLo.row hrl
      rw [eq] at hv5
      have HST := hid (stripe_some (HM.out.nxt HU.out) z hwf s hs ⟨hfew.1, by omega⟩)
      have HROW := hid hrow
      have HFEW := hid hfew
      have HV : Hid (∀ V, Up Nul w V → V.rangeAt gv (ov + t * 6) [.int .i64 s.kind, .int .i64 s.colour, .string s.k0, .string s.k1, .string s.k2, .slice qa s.locs.length qc]) := fun V u j v hj => by
       have h3 : j < 6 := by
        rcases Nat.lt_or_ge j 6 with h | h
        ·exact h
        ·rw [List.getElem?_eq_none (by simpa using h)] at hj; cases hj
       have h4 : j = 0 ∨ j = 1 ∨ j = 2 ∨ j = 3 ∨ j = 4 ∨ j = 5 := by omega
       rcases h4 with rfl | rfl | rfl | rfl | rfl | rfl
       ·cases hj; exact (u.cell (p := ⟨gv, ov + t * 6, none⟩) hgv id).trans hv0
       ·cases hj; exact (u.cell (p := ⟨gv, ov + t * 6 + 1, none⟩) hgv id).trans hv1
       ·cases hj; exact (u.cell (p := ⟨gv, ov + t * 6 + 2, none⟩) hgv id).trans hv2
       ·cases hj; exact (u.cell (p := ⟨gv, ov + t * 6 + 3, none⟩) hgv id).trans hv3
       ·cases hj; exact (u.cell (p := ⟨gv, ov + t * 6 + 4, none⟩) hgv id).trans hv4
       ·cases hj; exact (u.cell (p := ⟨gv, ov + t * 6 + 5, none⟩) hgv id).trans hv5
      clear hu hlt htl hcell hs hgv hv0 hv1 hv2 hv3 hv4 hv5 hz1 hl hwf hfew hrl eq hrow
      obtain ⟨kd, co, k0, k1, k2, ls⟩ := s
      obtain ⟨ln, LN⟩ : ∃ x, Hid (ls.length = x) := ⟨_, rfl⟩
      dsimp only at HST HROW HFEW HV
      rw [LN.out] at HST HV
      have RB10 := HV
      go_wp2_with fail
      refine HST.out.mono ?_
      rintro e w8 ⟨g, gc, rfl, hg1, hg2, hol, u8⟩
      have HU8 := hid (HU.out.trans u8)
      obtain ⟨a9, c9, e9, hrw⟩ := OwnLo.row hol
      injection e9 with e9 e11 e10
      clear e11
      subst e9 e10
      have HRW := hid hrw
      have HR8 := hid (HROW.out.nxt u8)
      clear u8 HST x1 q0 q1 q2 q3 q4 hg1 hg2 hol hrw
      go_upto_region 13 with fail
      obtain ⟨wA, hwA⟩ : ∃ W, W = w8.alloc (.cells #[.int .i64 kd, .int .i64 co, .string k0, .string k1, .string k2, .slice (some ⟨g, 0, none⟩) ln gc] 46) := ⟨_, rfl⟩
      rw [← hwA]
      obtain ⟨pb, PB⟩ : ∃ x, Hid (w8.heap.size = x) := ⟨_, rfl⟩
      rw [PB.out]
      have hpb : wA.heap[pb]? = some (.cells #[.int .i64 kd, .int .i64 co, .string k0, .string k1, .string k2, .slice (some ⟨g, 0, none⟩) ln gc] 46 (0, 0)) := by rw [hwA, ← PB.out]; exact heap_alloc_new _ _
      have hua : Up Nul w8 wA := by rw [hwA]; exact (Up.refl _ _).alloc _
      have HUA := hid (HU8.out.trans hua)
      have HPB := hid hpb
      have HSS : Hid (∀ V, Up Nul wA V → Calls Tryz.prog 45 #[.agg #[.int .i64 kd, .int .i64 co, .string k0, .string k1, .string k2, .slice (some ⟨g, 0, none⟩) ln gc], .agg #[.int .i64 kd, .int .i64 co, .string k0, .string k1, .string k2, .slice qa ln qc]] V fun e w' => e = .returned (.bool true) ∧ Up Nul V w') := fun V u => by
       have := sstripe_any V ⟨kd, co, k0, k1, k2, ls⟩ (some ⟨g, 0, none⟩) qa gc qc (HRW.out.nxt (hua.trans u)) (HR8.out.nxt (hua.trans u)) (by have := HFEW.out; show ls.length ≤ 1000; omega)
       unfold stv at this
       dsimp only at this
       rw [LN.out] at this
       exact this
      have RB3 : Hid (∀ V, Up Nul wA V → V.rangeAt pb 0 [.int .i64 kd, .int .i64 co, .string k0, .string k1, .string k2, .slice (some ⟨g, 0, none⟩) ln gc]) := fun V u j v hj => by
       have hq := u.keep HPB.out id
       simp only [World.cell?, hq, Nat.zero_add]
       have h3 : j < 6 := by
        rcases Nat.lt_or_ge j 6 with h | h
        ·exact h
        ·rw [List.getElem?_eq_none (by simpa using h)] at hj; cases hj
       have h4 : j = 0 ∨ j = 1 ∨ j = 2 ∨ j = 3 ∨ j = 4 ∨ j = 5 := by omega
       rcases h4 with rfl | rfl | rfl | rfl | rfl | rfl <;> exact hj
      have g9 : t < ni := HT.out
      clear hwA hpb hua
      refine wp_region_held_drew (S := (fun V => Up Nul wA V)) (by kernel_rfl) (by exact (Up.refl Nul wA).drew) (fun hHeld => ?_)
      refine tkv 0 (some 110) rfl ?_
      refine tkv 1 (some 111) rfl ?_
      refine tkv 2 (some 112) rfl ?_
      refine wpAnyH_take (i := 3) (oi := ⟨some 113, _, _, _, _, _⟩) rfl (by kernel_rfl) (by kernel_rfl) (by kernel_rfl) (fun _ _ _ h => h) (yieldsIf_load_mid (by rfl) 46 (.tmp 9) rfl pb (0) rfl [.int .i64 kd, .int .i64 co, .string k0, .string k1, .string k2, .slice (some ⟨g, 0, none⟩) ln gc] _ (fun W hW => RB3.out W hW) Tryz.underlying46 rfl (by kernel_rfl)) (by assumption) ?rc4
      try simp only [tdy]
      refine tkv 4 (some 114) rfl ?_
      refine tkv 5 (some 115) rfl ?_
      refine tkv 6 (some 116) rfl ?_
      refine tkl 7 (some 117) ?vc8 rfl ?yc8 ?rc8
      case yc8 => (intro w hSw; (try dsimp only at hSw); obtain ⟨q0, q1, q2, q3, q4⟩ := HQ.out _ (HUA.out.trans hSw); go_simp; try with_reducible rfl)
      try simp only [tdy]
      refine tkv 8 (some 118) rfl ?_
      refine tkv 9 (some 119) rfl ?_
      refine wpAnyH_take (i := 10) (oi := ⟨some 120, _, _, _, _, _⟩) rfl (by kernel_rfl) (by kernel_rfl) (by kernel_rfl) (fun _ _ _ h => h) (yieldsIf_load_mid (by rfl) 46 (.tmp 119) rfl gv (ov + t * 6) rfl [.int .i64 kd, .int .i64 co, .string k0, .string k1, .string k2, .slice qa ln qc] _ (fun W hW => RB10.out W (HUA.out.trans hW)) Tryz.underlying46 rfl (by kernel_rfl)) (by assumption) ?rc11
      try simp only [tdy]
      refine one 11 (some 121) rfl (fun K hK => ?_)
      go_simp
      go_at_call 45
      refine (HSS.out _ hHeld).mono ?_
      rintro e wb ⟨rfl, ub⟩
      have HUK := hid (Up.trans hHeld ub)
      clear ub
      refine hK.out _ _ (HUK.out) (fun hHeld => ?_)
      clear hK K
      try simp only [tdy]
      refine tkv 12 (some 122) rfl ?_
      refine tkv 13 (some 123) rfl ?_
      refine wpAnyH_done (by kernel_rfl) ?_ _
      go_wp2_with fail
      go_roundw
      case rel => exact ⟨t + 1, by have := HT.out; omega, by go_num, HUA.out.trans hHeld⟩
      case measure => have := HT.out; simp [intOf]; omega
     ·have i2 : ¬ (t : Int) < (ni : Int) := by omega
      clear hlt hu
      go_wp2_with fail
      go_meet
      exact HU.out
   case rest =>
    have HU2 := hid hcut
    clear hcut
    go_wp2_with fail
    go_ret
    exact ⟨rfl, HU2.out⟩
end
end Go.Proofs.YtepggchnhgpcnaaGreatDoor
