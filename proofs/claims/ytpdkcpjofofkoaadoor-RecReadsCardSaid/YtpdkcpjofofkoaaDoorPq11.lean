/- 'Encode' of a record that may be. -/
import Derived.Test.YtpdkcpjofofkoaaDoorPkTidy
import Derived.Test.YtpdkcpjofofkoaaDoorPq9
namespace Go.Proofs.YtpdkcpjofofkoaaDoor
open Go.RowKit
set_option linter.unusedVariables false
set_option linter.unusedSimpArgs false

theorem opt_yes {h : Int} {l : List Nat} (e : 0 < h) : opt h l = l := if_pos e
theorem opt_no {h : Int} {l : List Nat} (e : ¬ 0 < h) : opt h l = [] := if_neg e
set_option maxRecDepth 100000 in
set_option maxHeartbeats 4000000 in
theorem enc_core (w : World) (s : ByteArray) (n sid co : Nat) (sa : Option Addr) (cs : Nat) (la : Option Addr) (cl : Nat) (t : Tb) (k : Nat) (sids : List Int) (locs : List Lo) (hk9 : k < 9) (hk1 : 1 ≤ k) (hS : Shp w)
  (hn : n ≤ 64) (hsid : sid ≤ 2147483647) (hco : co ≤ 2) (hss : s.size ≤ 16) (hns : sids.length ≤ 3) (hnl : locs.length ≤ 12) (hs : RowI w sa sids) (hl : RowL w la locs) (hr : ∀ x ∈ sids, 0 ≤ x ∧ x ≤ 4294967295)
  (hlr : ∀ l ∈ locs, (0 ≤ l.d ∧ l.d ≤ 23) ∧ (0 ≤ l.s ∧ l.s ≤ 63) ∧ 1 ≤ l.i ∧ l.i ≤ 2147483647) (ht : ∀ x ∈ t.l, 0 ≤ x ∧ x ≤ 4294967295)
  (H : ∀ W, Up Nul w W → Calls Tryd.prog 8 #[.agg #[.int .i64 (k : Nat), .string s, .int .i64 (n : Nat), .int .i64 (sid : Nat), .slice sa sids.length cs, .int .i64 (co : Nat), .slice la locs.length cl, .int .i64 t.hot, .int .i64 t.warm, .int .i64 t.gap, .int .i64 t.add, .int .i64 t.top, .int .i64 t.half]] W fun e w' => e = .returned (.bool true) ∧ Up Nul W w') :
  Calls Tryd.prog 9 #[.agg #[.int .i64 (k : Nat), .string s, .int .i64 (n : Nat), .int .i64 (sid : Nat), .slice sa sids.length cs, .int .i64 (co : Nat), .slice la locs.length cl, .int .i64 t.hot, .int .i64 t.warm, .int .i64 t.gap, .int .i64 t.add, .int .i64 t.top, .int .i64 t.half]] w fun e w' => ∃ v W0, e = .returned (.tuple #[v, .bool true]) ∧ Up Nul w W0 ∧
   Bz W0 w' v ([k] ++ opt (sh k 1) (s.size :: nums s) ++ opt (sh k 3) [n] ++ opt (sh k 5) (wds [(sid : Int)]) ++ opt (sh k 7) [co] ++ wds sids ++ opt (sh k 12) [locs.length] ++ los locs ++ opt (sh k 14) (wds t.l)) := by
 have HOK := hid H
 have HS := hid hS
 have HSI := hid hs
 have HLO := hid hl
 have HR := hid hr
 have HLR := hid hlr
 have HT := hid ht
 have HNS := hid hns
 have HNL := hid hnl
 have HSS := hid hss
 clear H hS hs hl hr hlr ht
 obtain ⟨ns, NS⟩ : ∃ ns, Hid (sids.length = ns) := ⟨_, rfl⟩
 obtain ⟨nl, NL⟩ : ∃ nl, Hid (locs.length = nl) := ⟨_, rfl⟩
 rw [NS.out] at HNS hns HOK ⊢
 rw [NL.out] at HNL hnl HOK ⊢
 obtain ⟨w0, hw0⟩ : ∃ W, W = w.alloc (.cells #[.int .i64 (k : Nat), .string s, .int .i64 (n : Nat), .int .i64 (sid : Nat), .slice sa ns cs, .int .i64 (co : Nat), .slice la nl cl, .int .i64 t.hot, .int .i64 t.warm, .int .i64 t.gap, .int .i64 t.add, .int .i64 t.top, .int .i64 t.half] 27) := ⟨_, rfl⟩
 have HUA : Hid (Up Nul w w0) := by show Up _ _ _; rw [hw0]; exact (Up.refl Nul w).alloc _
 have HBA : Hid (w0.heap[w.heap.size]? = some (.cells #[.int .i64 (k : Nat), .string s, .int .i64 (n : Nat), .int .i64 (sid : Nat), .slice sa ns cs, .int .i64 (co : Nat), .slice la nl cl, .int .i64 t.hot, .int .i64 t.warm, .int .i64 t.gap, .int .i64 t.add, .int .i64 t.top, .int .i64 t.half] 27 (0, 0))) := by show _ = _; rw [hw0]; exact heap_alloc_new _ _
 have HLT : Hid (w.heap.size < w0.heap.size) := by show _ < _; rw [hw0]; simp
 have i0 : (0 : Int) ≤ (k : Int) := by omega
 have i1 : (k : Int) < 9 := by omega
 have hOK := HOK.out _ HUA.out
 go_enter Tryd.func9, Tryd.ntmps9
 go_wp2_with fail
 rw [← hw0]
 refine hOK.mono ?_
 rintro e w1 ⟨rfl, u1⟩
 have hb := (u1.block _ HLT.out id).trans HBA.out
 have HU1 := hid (HUA.out.trans u1)
 have hlt := Nat.lt_of_lt_of_le HLT.out u1.size
 clear u1 HBA HUA HLT HOK hOK hw0
 have y0 := (HS.out.nxt HU1.out).c k 0 hk9 (by omega)
 have y1 := (HS.out.nxt HU1.out).c k 1 hk9 (by omega)
 have y2 := (HS.out.nxt HU1.out).c k 2 hk9 (by omega)
 have y3 := (HS.out.nxt HU1.out).c k 3 hk9 (by omega)
 have y4 := (HS.out.nxt HU1.out).c k 4 hk9 (by omega)
 have y5 := (HS.out.nxt HU1.out).c k 5 hk9 (by omega)
 have y6 := (HS.out.nxt HU1.out).c k 6 hk9 (by omega)
 have y7 := (HS.out.nxt HU1.out).c k 7 hk9 (by omega)
 have y8 := (HS.out.nxt HU1.out).c k 8 hk9 (by omega)
 have y9 := (HS.out.nxt HU1.out).c k 9 hk9 (by omega)
 have y10 := (HS.out.nxt HU1.out).c k 10 hk9 (by omega)
 have y11 := (HS.out.nxt HU1.out).c k 11 hk9 (by omega)
 have y12 := (HS.out.nxt HU1.out).c k 12 hk9 (by omega)
 have y13 := (HS.out.nxt HU1.out).c k 13 hk9 (by omega)
 have y14 := (HS.out.nxt HU1.out).c k 14 hk9 (by omega)
 rw [Nat.add_zero] at y0
 have HSI1 := hid (HSI.out.nxt HU1.out)
 have HLO1 := hid (HLO.out.nxt HU1.out)
 generalize w.heap.size = p at hb hlt ⊢
 have x0 : w1.cell? ⟨p, 0, none⟩ = some (.int .i64 (k : Nat)) := by simp [World.cell?, hb]
 clear HSI HLO
 go_upto_region 4 with fail
 obtain ⟨W2, hW2⟩ : ∃ W, W = w1.alloc (.cells #[.int .i64 (sh k 0), .int .i64 (sh k 1), .int .i64 (sh k 2), .int .i64 (sh k 3), .int .i64 (sh k 4), .int .i64 (sh k 5), .int .i64 (sh k 6), .int .i64 (sh k 7), .int .i64 (sh k 8), .int .i64 (sh k 9), .int .i64 (sh k 10), .int .i64 (sh k 11), .int .i64 (sh k 12), .int .i64 (sh k 13), .int .i64 (sh k 14)] 53) := ⟨_, rfl⟩
 have U2 : Hid (Up Nul w1 W2) := by show Up _ _ _; rw [hW2]; exact (Up.refl Nul w1).alloc _
 have hq : W2.heap[w1.heap.size]? = some (.cells #[.int .i64 (sh k 0), .int .i64 (sh k 1), .int .i64 (sh k 2), .int .i64 (sh k 3), .int .i64 (sh k 4), .int .i64 (sh k 5), .int .i64 (sh k 6), .int .i64 (sh k 7), .int .i64 (sh k 8), .int .i64 (sh k 9), .int .i64 (sh k 10), .int .i64 (sh k 11), .int .i64 (sh k 12), .int .i64 (sh k 13), .int .i64 (sh k 14)] 53 (0, 0)) := by rw [hW2]; exact heap_alloc_new _ _
 have hp := (U2.out.block p hlt id).trans hb
 have hq2 : w1.heap.size < W2.heap.size := by rw [hW2]; simp
 have hp2 := Nat.lt_of_lt_of_le hlt U2.out.size
 have U3 := hid (HU1.out.trans U2.out)
 have HSI := hid (HSI1.out.nxt U2.out)
 have HLO := hid (HLO1.out.nxt U2.out)
 rw [← hW2]
 clear hW2 x0 y0 y1 y2 y3 y4 y5 y6 y7 y8 y9 y10 y11 y12 y13 y14 hb U2 HU1 hlt HSI1 HLO1
 generalize w1.heap.size = q at hq hq2 ⊢
 have Hp0 := celN 0 (.int .i64 (k : Nat)) hp2 hp rfl
 have Hp1 := celN 1 (.string s) hp2 hp rfl
 have Hp2 := celN 2 (.int .i64 (n : Nat)) hp2 hp rfl
 have Hp3 := celN 3 (.int .i64 (sid : Nat)) hp2 hp rfl
 have Hp4 := celN 4 (.slice sa ns cs) hp2 hp rfl
 have Hp5 := celN 5 (.int .i64 (co : Nat)) hp2 hp rfl
 have Hp6 := celN 6 (.slice la nl cl) hp2 hp rfl
 have Hp7 := celN 7 (.int .i64 t.hot) hp2 hp rfl
 have Hp8 := celN 8 (.int .i64 t.warm) hp2 hp rfl
 have Hp9 := celN 9 (.int .i64 t.gap) hp2 hp rfl
 have Hp10 := celN 10 (.int .i64 t.add) hp2 hp rfl
 have Hp11 := celN 11 (.int .i64 t.top) hp2 hp rfl
 have Hp12 := celN 12 (.int .i64 t.half) hp2 hp rfl
 have Hq0 := celN 0 (.int .i64 (sh k 0)) hq2 hq rfl
 have Hq1 := celN 1 (.int .i64 (sh k 1)) hq2 hq rfl
 have Hq2 := celN 2 (.int .i64 (sh k 2)) hq2 hq rfl
 have Hq3 := celN 3 (.int .i64 (sh k 3)) hq2 hq rfl
 have Hq4 := celN 4 (.int .i64 (sh k 4)) hq2 hq rfl
 have Hq5 := celN 5 (.int .i64 (sh k 5)) hq2 hq rfl
 have Hq6 := celN 6 (.int .i64 (sh k 6)) hq2 hq rfl
 have Hq7 := celN 7 (.int .i64 (sh k 7)) hq2 hq rfl
 have Hq8 := celN 8 (.int .i64 (sh k 8)) hq2 hq rfl
 have Hq9 := celN 9 (.int .i64 (sh k 9)) hq2 hq rfl
 have Hq10 := celN 10 (.int .i64 (sh k 10)) hq2 hq rfl
 have Hq11 := celN 11 (.int .i64 (sh k 11)) hq2 hq rfl
 have Hq12 := celN 12 (.int .i64 (sh k 12)) hq2 hq rfl
 have Hq13 := celN 13 (.int .i64 (sh k 13)) hq2 hq rfl
 have Hq14 := celN 14 (.int .i64 (sh k 14)) hq2 hq rfl
 clear hp hq hp2 hq2
 have HB0 : Hid (Bz W2 (W2.alloc (.cells #[.int .u8 (k : Nat)] 5)) (.slice (some ⟨W2.heap.size, 0, none⟩) 1 1) [k]) := Bz.one W2 k (by omega) _ rfl
 have HK := hid hk9
 have hk255 : (k : Int) % 256 = (k : Int) := by omega
 have xp0 := Hp0.out W2 (Up.refl _ _)
 go_upto_region 5 with fail

 obtain ⟨Z0, HZ0⟩ : ∃ Z : List Nat, Hid ([k] = Z) := ⟨_, rfl⟩
 rw [HZ0.out] at HB0
 have hz0 : Z0.length ≤ 1 := by rw [← HZ0.out]; simp
 have HB := HB0
 clear HB0 xp0 hk255 i0 i1
 -- piece 1
 have y1 := Hq0.out _ HB.out.up
 have y2 := Hq1.out _ HB.out.up
 go_upto_if 21 with (first | (go_at_call 26; refine (named_any _ _ _).mono ?_; rintro e wb ⟨rfl, kb⟩; have HN := hid (HB.out.nxt kb); clear kb) | fail)
 clear y1 HB y2
 go_cut [5] (fun v wx => Bz W2 wx v (Z0 ++ opt (sh k 1) (s.size :: nums s)))
 case first =>
  as_aux_lemma =>
  by_cases h : 0 < sh k 1
  ·skip
   have xp := Hp1.out _ HN.out.up
   have xs : ((s.size : Nat) : Int) % 256 = ((s.size : Nat) : Int) := by omega
   obtain ⟨va, wa, hrun, HA, _⟩ := HN.out.app s.size (by omega) (by omega) #[.int .u8 ((s.size : Nat) : Int)] rfl
   have xp2 := Hp1.out _ HA.up
   obtain ⟨vb, wb2, hrun2, HA2⟩ := HA.appS s (by omega) (by rw [List.length_append, List.length_singleton]; omega)
   have HF : Hid (Bz W2 wb2 vb (Z0 ++ s.size :: nums s)) := by show Bz _ _ _ _; rw [List.append_assoc] at HA2; exact HA2
   obtain ⟨_, _, _, rfl⟩ := HA.own.shape
   obtain ⟨_, _, _, rfl⟩ := HA2.own.shape
   clear HA HA2
   go_wp2_with (first | (at_builtin; refine wpList_append_eqv rfl (.tmp 22) (.tmp 27) 32 rfl _ _ _ rfl rfl hrun ?_) | (at_builtin; refine wpList_append_eqvS rfl (.tmp 29) (.tmp 31) 32 9 rfl _ _ _ rfl rfl hrun2 ?_) | fail)
   go_meet
   case rel => rw [opt_yes h]; exact HF.out
  ·go_wp2_with fail
   go_meet
   case rel => rw [opt_no (by omega), List.append_nil]; exact HN.out
 case rest =>
 obtain ⟨Z1, HZ1⟩ : ∃ Z : List Nat, Hid (Z0 ++ opt (sh k 1) (s.size :: nums s) = Z) := ⟨_, rfl⟩
 have hz1 : Z1.length ≤ 18 := by rw [← HZ1.out, List.length_append]; have := opt_le (sh k 1) (s.size :: nums s); have : (s.size :: nums s).length = s.size + 1 := (by rw [List.length_cons, nums_length]); omega
 rw [HZ1.out] at hcut
 have HB := hid hcut
 clear hcut HN
 obtain ⟨a5, l5, c5, rfl⟩ := HB.out.own.shape
 -- piece 2
 have y1 := Hq2.out _ HB.out.up
 have y2 := Hq3.out _ HB.out.up
 go_upto_if 35 with (first | (go_at_call 26; refine (named_any _ _ _).mono ?_; rintro e wb ⟨rfl, kb⟩; have HN := hid (HB.out.nxt kb); clear kb) | fail)
 clear y1 HB y2
 go_cut [5] (fun v wx => Bz W2 wx v (Z1 ++ opt (sh k 3) [n]))
 case first =>
  as_aux_lemma =>
  by_cases h : 0 < sh k 3
  ·skip
   have xp := Hp2.out _ HN.out.up
   have xm : ((n : Nat) : Int) % 256 = ((n : Nat) : Int) := by omega
   obtain ⟨va, wa, hrun, HA, _⟩ := HN.out.app (n) (by omega) (by omega) #[.int .u8 ((n : Nat) : Int)] rfl
   have HF := hid HA
   obtain ⟨_, _, _, rfl⟩ := HA.own.shape
   clear HA
   go_wp2_with (first | (at_builtin; refine wpList_append_eqv rfl (.tmp 36) (.tmp 40) 32 rfl _ _ _ rfl rfl hrun ?_) | fail)
   go_meet
   case rel => rw [opt_yes h]; exact HF.out
  ·go_wp2_with fail
   go_meet
   case rel => rw [opt_no (by omega), List.append_nil]; exact HN.out
 case rest =>
 obtain ⟨Z2, HZ2⟩ : ∃ Z : List Nat, Hid (Z1 ++ opt (sh k 3) [n] = Z) := ⟨_, rfl⟩
 have hz2 : Z2.length ≤ 19 := by rw [← HZ2.out, List.length_append]; have := opt_le (sh k 3) [n]; have : ([n] : List Nat).length = 1 := rfl; omega
 rw [HZ2.out] at hcut
 have HB := hid hcut
 clear hcut HN
 obtain ⟨a5, l5, c5, rfl⟩ := HB.out.own.shape
 -- piece 3
 have y1 := Hq4.out _ HB.out.up
 have y2 := Hq5.out _ HB.out.up
 go_upto_if 44 with (first | (go_at_call 26; refine (named_any _ _ _).mono ?_; rintro e wb ⟨rfl, kb⟩; have HN := hid (HB.out.nxt kb); clear kb) | fail)
 clear y1 HB y2
 go_cut [5] (fun v wx => Bz W2 wx v (Z2 ++ opt (sh k 5) (wds [(sid : Int)])))
 case first =>
  as_aux_lemma =>
  by_cases h : 0 < sh k 5
  ·skip
   have xp := Hp3.out _ HN.out.up
   have HNA := hid (HN.out.nxt ((Up.refl Nul wb).alloc (.cells #[.int .i64 ((sid : Nat) : Int)] 3)))
   have HW := hid (HNA.out.words (some ⟨wb.heap.size, 0, none⟩) 1 [(sid : Int)] (rowI_one (World.cell?_alloc_new _ _ _ 0)) (fun _ x hx => by cases hx; exact HN.out.ne (Nat.le_refl _)) (by show 1 ≤ 100; omega) (by omega) (fun x hx => by simp at hx; omega))
   go_wp2_with (first | (go_at_call 27; refine HW.out.mono ?_; rintro e wc ⟨vc, rfl, hc⟩; have HF := hid hc; clear hc) | fail)
   go_meet
   case rel => rw [opt_yes h]; exact HF.out
  ·go_wp2_with fail
   go_meet
   case rel => rw [opt_no (by omega), List.append_nil]; exact HN.out
 case rest =>
 obtain ⟨Z3, HZ3⟩ : ∃ Z : List Nat, Hid (Z2 ++ opt (sh k 5) (wds [(sid : Int)]) = Z) := ⟨_, rfl⟩
 have hz3 : Z3.length ≤ 23 := by rw [← HZ3.out, List.length_append]; have := opt_le (sh k 5) (wds [(sid : Int)]); have := wds_length [(sid : Int)]; have e1 : ([(sid : Int)] : List Int).length = 1 := rfl; omega
 rw [HZ3.out] at hcut
 have HB := hid hcut
 clear hcut HN
 obtain ⟨a5, l5, c5, rfl⟩ := HB.out.own.shape
 -- piece 4
 have y1 := Hq6.out _ HB.out.up
 have y2 := Hq7.out _ HB.out.up
 go_upto_if 52 with (first | (go_at_call 26; refine (named_any _ _ _).mono ?_; rintro e wb ⟨rfl, kb⟩; have HN := hid (HB.out.nxt kb); clear kb) | fail)
 clear y1 HB y2
 go_cut [5] (fun v wx => Bz W2 wx v (Z3 ++ opt (sh k 7) [co]))
 case first =>
  as_aux_lemma =>
  by_cases h : 0 < sh k 7
  ·skip
   have xp := Hp5.out _ HN.out.up
   have xm : ((co : Nat) : Int) % 256 = ((co : Nat) : Int) := by omega
   obtain ⟨va, wa, hrun, HA, _⟩ := HN.out.app (co) (by omega) (by omega) #[.int .u8 ((co : Nat) : Int)] rfl
   have HF := hid HA
   obtain ⟨_, _, _, rfl⟩ := HA.own.shape
   clear HA
   go_wp2_with (first | (at_builtin; refine wpList_append_eqv rfl (.tmp 53) (.tmp 57) 32 rfl _ _ _ rfl rfl hrun ?_) | fail)
   go_meet
   case rel => rw [opt_yes h]; exact HF.out
  ·go_wp2_with fail
   go_meet
   case rel => rw [opt_no (by omega), List.append_nil]; exact HN.out
 case rest =>
 obtain ⟨Z4, HZ4⟩ : ∃ Z : List Nat, Hid (Z3 ++ opt (sh k 7) [co] = Z) := ⟨_, rfl⟩
 have hz4 : Z4.length ≤ 24 := by rw [← HZ4.out, List.length_append]; have := opt_le (sh k 7) [co]; have : ([co] : List Nat).length = 1 := rfl; omega
 rw [HZ4.out] at hcut
 have HB := hid hcut
 clear hcut HN
 obtain ⟨a5, l5, c5, rfl⟩ := HB.out.own.shape
 -- piece 5
 have xp := Hp4.out _ HB.out.up
 have HW := hid (HB.out.words sa cs sids (HSI.out.nxt HB.out.up) (HB.out.far HSI.out) (by rw [NS.out]; omega) (by omega) HR.out)
 rw [NS.out] at HW
 go_upto_region 15 with (first | (go_at_call 27; refine HW.out.mono ?_; rintro e wc ⟨vc, rfl, hc⟩) | fail)
 obtain ⟨Z5, HZ5⟩ : ∃ Z : List Nat, Hid (Z4 ++ wds sids = Z) := ⟨_, rfl⟩
 have hz5 : Z5.length ≤ 36 := by rw [← HZ5.out, List.length_append, wds_length, NS.out]; omega
 rw [HZ5.out] at hc
 clear HB HW xp
 have HB := hid hc
 clear hc
 obtain ⟨a5, l5, c5, rfl⟩ := HB.out.own.shape
 -- piece 6
 have y1 := Hq12.out _ HB.out.up
 have HN := HB
 go_upto_if 65 with fail
 clear y1 HB
 go_cut [5] (fun v wx => Bz W2 wx v (Z5 ++ opt (sh k 12) [nl]))
 case first =>
  as_aux_lemma =>
  by_cases h : 0 < sh k 12
  ·skip
   have xp := Hp6.out _ HN.out.up
   have xm : ((nl : Nat) : Int) % 256 = ((nl : Nat) : Int) := by omega
   obtain ⟨va, wa, hrun, HA, _⟩ := HN.out.app (nl) (by omega) (by omega) #[.int .u8 ((nl : Nat) : Int)] rfl
   have HF := hid HA
   obtain ⟨_, _, _, rfl⟩ := HA.own.shape
   clear HA
   go_wp2_with (first | (at_builtin; refine wpList_append_eqv rfl (.tmp 66) (.tmp 71) 32 rfl _ _ _ rfl rfl hrun ?_) | fail)
   go_meet
   case rel => rw [opt_yes h]; exact HF.out
  ·go_wp2_with fail
   go_meet
   case rel => rw [opt_no (by omega), List.append_nil]; exact HN.out
 case rest =>
 obtain ⟨Z6, HZ6⟩ : ∃ Z : List Nat, Hid (Z5 ++ opt (sh k 12) [nl] = Z) := ⟨_, rfl⟩
 have hz6 : Z6.length ≤ 37 := by rw [← HZ6.out, List.length_append]; have := opt_le (sh k 12) [nl]; have : ([nl] : List Nat).length = 1 := rfl; omega
 rw [HZ6.out] at hcut
 have HB := hid hcut
 clear hcut HN
 obtain ⟨a5, l5, c5, rfl⟩ := HB.out.own.shape
 -- piece 7
 have xp := Hp6.out _ HB.out.up
 go_upto_block 0 with fail
 go_cut [5] (fun v wx => Bz W2 wx v (Z6 ++ los locs))
 case first =>
  as_aux_lemma =>
  go_wp2_with fail
  go_loopw [5, 7, 76] (fun v _ i wr => ∃ t : Nat, t ≤ nl ∧ i = .int .i64 (t : Nat) ∧ Bz W2 wr v (Z6 ++ los (locs.take t))) (fun _ _ i _ => nl - (intOf i).toNat)
  case atStart => exact ⟨0, Nat.zero_le _, rfl, by simpa [los] using HB.out⟩
  case round =>
   clear HB
   obtain ⟨t, ht, rfl, hb⟩ := hrel
   have HB := hid hb
   have i0 : (0 : Int) ≤ (t : Int) := by omega
   have i9 : (t : Int) ≤ 12 := by have := HNL.out; omega
   obtain ⟨a7, l7, c7, rfl⟩ := hb.own.shape
   by_cases hlt : t < nl
   ·have htl : t < locs.length := by rw [NL.out]; exact hlt
    obtain ⟨g, o, rfl, hg, hcell⟩ := (HLO.out.nxt HB.out.up).resolve_left (fun e => by rw [e] at htl; cases htl)
    have x1 := hcell t _ (List.getElem?_eq_getElem htl) 0 _ rfl
    have x2 := hcell t _ (List.getElem?_eq_getElem htl) 1 _ rfl
    have x3 := hcell t _ (List.getElem?_eq_getElem htl) 2 _ rfl
    rw [Nat.add_zero] at x1
    have HN := hid (los_next htl)
    have hlo := HLR.out _ (List.getElem_mem htl)
    generalize locs[t] = lo at x1 x2 x3 HN hlo
    obtain ⟨d, sl, id⟩ := lo
    obtain ⟨⟨d1, d2⟩, ⟨s1, s2⟩, e1, e2⟩ := hlo
    simp only at d1 d2 s1 s2 e1 e2
    obtain ⟨d, rfl⟩ := Int.eq_ofNat_of_zero_le d1
    obtain ⟨sl, rfl⟩ := Int.eq_ofNat_of_zero_le s1
    obtain ⟨id, rfl⟩ := Int.eq_ofNat_of_zero_le (show 0 ≤ id by omega)
    have i2 : (t : Int) < (nl : Int) := by omega
    have HTL := hid hlt
    have HLN : Hid ((Z6 ++ los (locs.take t)).length ≤ 200) := by
     show _ ≤ _
     rw [List.length_append, los_length, List.length_take]
     omega
    have xd : ((d : Nat) : Int) % 256 = ((d : Nat) : Int) := by omega
    have xs : ((sl : Nat) : Int) % 256 = ((sl : Nat) : Int) := by omega
    have HBA := hid (HB.out.nxt ((Up.refl Nul wr).alloc (.cells #[.int .i64 ((d : Nat) : Int), .int .i64 ((sl : Nat) : Int), .int .i64 ((id : Nat) : Int)] 31)))
    obtain ⟨va, wa, hrun, HA, hkeep⟩ := HBA.out.app2 d sl (by omega) (by omega) (by have := HLN.out; omega) #[.int .u8 ((d : Nat) : Int), .int .u8 ((sl : Nat) : Int)] rfl
    have hsz : (wr.alloc (.cells #[.int .i64 ((d : Nat) : Int), .int .i64 ((sl : Nat) : Int), .int .i64 ((id : Nat) : Int)] 31)).heap.size = wr.heap.size + 1 := by simp
    rw [hsz] at hrun
    have hbox := (hkeep wr.heap.size (by simp) (HB.out.ne (Nat.le_refl _))).trans (heap_alloc_new _ _)
    have xb : wa.cell? ⟨wr.heap.size, 2, none⟩ = some (.int .i64 ((id : Nat) : Int)) := by simp [World.cell?, hbox]
    have HAA := hid (HA.nxt ((Up.refl Nul wa).alloc (.cells #[.int .i64 ((id : Nat) : Int)] 3)))
    have HW := hid (HAA.out.words (some ⟨wa.heap.size, 0, none⟩) 1 [(id : Int)] (rowI_one (World.cell?_alloc_new _ _ _ 0)) (fun _ x hx => by cases hx; exact HA.ne (Nat.le_refl _)) (by show 1 ≤ 100; omega) (by rw [List.length_append]; show _ + 2 ≤ 1000; have := HLN.out; omega) (fun x hx => by simp at hx; omega))
    obtain ⟨_, _, _, rfl⟩ := HA.own.shape
    clear HA hkeep hbox hsz hb ht hlt htl hcell hg d1 s1 e1
    go_wp2_with (first
     | (at_builtin; refine wpList_append_eqv rfl (.tmp 80) (.tmp 87) 32 rfl _ _ _ rfl rfl hrun ?_)
     | (go_at_call 27; refine HW.out.mono ?_; rintro e wc ⟨vc, rfl, hc⟩)
     | fail)
    have HF : Hid (Bz W2 wc vc (Z6 ++ los (locs.take (t + 1)))) := by
     show Bz _ _ _ _
     rw [HN.out, ← List.append_assoc]
     have e : Z6 ++ los (locs.take t) ++ loB ⟨(d : Int), (sl : Int), (id : Int)⟩ = Z6 ++ los (locs.take t) ++ [d, sl] ++ wds [(id : Int)] := by simp [loB, wds]
     rw [e]
     exact hc
    clear hc HN
    go_wp2_with fail
    go_roundw
    case rel => exact ⟨t + 1, HTL.out, by go_num, HF.out⟩
    case measure => have := HTL.out; simp [intOf]; omega
   ·obtain rfl : t = nl := by omega
    have HD : Hid (Bz W2 wr (.slice a7 l7 c7) (Z6 ++ los locs)) := by
     show Bz _ _ _ _
     rw [List.take_of_length_le (by rw [NL.out]; exact Nat.le_refl _)] at hb
     exact hb
    clear ht hlt hb
    go_wp2_with fail
    go_meet
    case rel => exact HD.out
 case rest =>
 obtain ⟨Z7, HZ7⟩ : ∃ Z : List Nat, Hid (Z6 ++ los locs = Z) := ⟨_, rfl⟩
 have hz7 : Z7.length ≤ 110 := by rw [← HZ7.out, List.length_append, los_length, NL.out]; omega
 rw [HZ7.out] at hcut
 clear HB xp
 have HB := hid hcut
 clear hcut
 obtain ⟨a5, l5, c5, rfl⟩ := HB.out.own.shape
 -- piece 8
 have y1 := Hq13.out _ HB.out.up
 have y2 := Hq14.out _ HB.out.up
 go_upto_if 97 with (first | (go_at_call 26; refine (named_any _ _ _).mono ?_; rintro e wb ⟨rfl, kb⟩; have HN := hid (HB.out.nxt kb); clear kb) | fail)
 clear y1 HB y2
 go_cut [5] (fun v wx => Bz W2 wx v (Z7 ++ opt (sh k 14) (wds t.l)))
 case first =>
  as_aux_lemma =>
  by_cases h : 0 < sh k 14
  ·skip
   have xp7 := Hp7.out _ HN.out.up
   have xp8 := Hp8.out _ HN.out.up
   have xp9 := Hp9.out _ HN.out.up
   have xp10 := Hp10.out _ HN.out.up
   have xp11 := Hp11.out _ HN.out.up
   have xp12 := Hp12.out _ HN.out.up
   have HTA := hid (tableN_any t wb)
   go_wp2_with (first | (go_at_call 25; refine HTA.out.mono ?_; rintro e wd ⟨gt, rfl, ht, ud, hgt⟩; have HW := hid ((HN.out.nxt ud).words (some ⟨gt, 0, none⟩) 6 t.l ht (fun _ x hx => by cases hx; exact HN.out.ne hgt) (by show 6 ≤ 100; omega) (by omega) HT.out)) | (go_at_call 27; refine HW.out.mono ?_; rintro e wc ⟨vc, rfl, hc⟩; have HF := hid hc; clear hc) | fail)
   go_meet
   case rel => rw [opt_yes h]; exact HF.out
  ·go_wp2_with fail
   go_meet
   case rel => rw [opt_no (by omega), List.append_nil]; exact HN.out
 case rest =>
 obtain ⟨Z8, HZ8⟩ : ∃ Z : List Nat, Hid (Z7 ++ opt (sh k 14) (wds t.l) = Z) := ⟨_, rfl⟩
 have hz8 : Z8.length ≤ 140 := by rw [← HZ8.out, List.length_append]; have := opt_le (sh k 14) (wds t.l); have := wds_length t.l; have e1 : t.l.length = 6 := rfl; omega
 rw [HZ8.out] at hcut
 have HB := hid hcut
 clear hcut HN
 obtain ⟨a5, l5, c5, rfl⟩ := HB.out.own.shape
 go_wp2_with fail
 go_ret2
 refine ⟨_, W2, rfl, U3.out, ?_⟩
 have h := HB.out
 rw [← HZ8.out, ← HZ7.out, ← HZ6.out, ← HZ5.out, ← HZ4.out, ← HZ3.out, ← HZ2.out, ← HZ1.out, ← HZ0.out] at h
 exact h
end Go.Proofs.YtpdkcpjofofkoaaDoor
