/- The law TrioMends, walked, whatever the program's Trio is. -/
import Derived.Test.YtencinajieicpaaTrMendsPut
import Derived.Test.YtencinajieicpaaTrTwoWalk
namespace Go.Proofs.Ytencinajieicpaa
open Go.RowKit
set_option linter.unusedVariables false

/-- Where the law stands, its Tapes named. -/
structure MdB (O : TrioOps) (w0 w : World) (t : Nat) (q : Nat → Nat) (tb wb lb : Nat) (S : Nat → TS) (W : List (List Nat)) : Prop where
  ex : ∃ N v, QH O (MdP tb wb lb v) w0 w t q N none none S ∧ N ≤ W.length ∧ OwnV 9 w0.heap.size w v (SrV W) ∧ w.heap[wb]? = some (.cells #[v] 29 (0, 0))
  tc : w.heap[tb]? = some (.cells #[.pointer (some ⟨t, 0, none⟩)] 23 (0, 0))
  lh : w.heap[lb]? = some (.cells #[.pointer (some ⟨q 0, 0, none⟩), .pointer (some ⟨q 1, 0, none⟩), .pointer (some ⟨q 2, 0, none⟩)] 27 (0, 0))
  old : w0.heap.size ≤ tb ∧ w0.heap.size ≤ wb ∧ w0.heap.size ≤ lb
section
variable {O : TrioOps} {w0 w w' : World} {t : Nat} {q : Nat → Nat} {tb wb lb : Nat} {S : Nat → TS} {W : List (List Nat)} {lv : Nat → Bool}
theorem MdS.open (h : MdS O w0 w t q tb wb lb lv W) : ∃ S, MdB O w0 w t q tb wb lb S W ∧ MdI W lv S ∧ 2 ≤ nlv S := by
  obtain ⟨N, S, v, h1, h2, h3, h4, h5, h6⟩ := h.ex
  exact ⟨S, ⟨⟨N, v, h1, h4, h5, h6⟩, h.tc, h.lh, h.old⟩, h2, h3⟩
theorem MdB.close (h : MdB O w0 w t q tb wb lb S W) (h2 : MdI W lv S) (h3 : 2 ≤ nlv S) : MdS O w0 w t q tb wb lb lv W := by
  obtain ⟨N, v, h1, h4, h5, h6⟩ := h.ex
  exact ⟨⟨N, S, v, h1, h2, h3, h4, h5, h6⟩, h.tc, h.lh, h.old⟩
theorem MdB.l3 (h : MdB O w0 w t q tb wb lb S W) : L3 w lb q := l3_of h.lh
theorem MdB.ct (h : MdB O w0 w t q tb wb lb S W) : w.cell? ⟨tb, 0, none⟩ = some (.pointer (some ⟨t, 0, none⟩)) := by simp [World.cell?, h.tc]
theorem MdB.did {S' : Nat → TS} {N' : Nat} {v : Value} (h : MdB O w0 w t q tb wb lb S W) (h5 : OwnV 9 w0.heap.size w v (SrV W)) (h6 : w.heap[wb]? = some (.cells #[v] 29 (0, 0))) (tp : Tp (MdP tb wb lb v) w w') (h1 : QH O (MdP tb wb lb v) w0 w' t q N' none none S') (hN : N' ≤ W.length) : MdB O w0 w' t q tb wb lb S' W :=
  ⟨⟨N', v, h1, hN, h5.stay tp fun x hx => .inr (.inr (.inr hx)), (tp.2 wb (.inr (.inl rfl))).trans h6⟩, (tp.2 tb (.inl rfl)).trans h.tc, (tp.2 lb (.inr (.inr (.inl rfl)))).trans h.lh, h.old⟩
theorem MdB.fail (h : MdB O w0 w t q tb wb lb S W) {i : Nat} (hi : i < 3) : Calls Try.prog 15 #[.pointer (some ⟨q i, 0, none⟩)] w fun e w' => e = .returned (.tuple #[]) ∧ MdB O w0 w' t q tb wb lb (updT S i ⟨(S i).B, (S i).loose, false⟩) W := by
  obtain ⟨N, v, h1, h4, h5, h6⟩ := h.ex
  refine (qh_fail h1 hi).mono ?_
  rintro e w' ⟨rfl, k1, tp⟩
  exact ⟨rfl, h.did h5 h6 tp k1 h4⟩
theorem MdB.replace (h : MdB O w0 w t q tb wb lb S W) {i : Nat} (hi : i < 3) : Calls Try.prog 16 #[.pointer (some ⟨q i, 0, none⟩)] w fun e w' => e = .returned (.tuple #[]) ∧ MdB O w0 w' t q tb wb lb (updT S i ⟨[], 0, true⟩) W := by
  obtain ⟨N, v, h1, h4, h5, h6⟩ := h.ex
  refine (qh_replace h1 hi).mono ?_
  rintro e w' ⟨rfl, k1, tp⟩
  exact ⟨rfl, h.did h5 h6 tp k1 h4⟩
theorem MdB.mend (h : MdB O w0 w t q tb wb lb S W) {x : Int} {S' : Nat → TS} (hm : tMnd S none x = (0, S', none)) : Calls Try.prog 17 #[.pointer (some ⟨t, 0, none⟩), .int .i64 x] w fun e w' => e = .returned (.int .i64 0) ∧ MdB O w0 w' t q tb wb lb S' W := by
  obtain ⟨N, v, h1, h4, h5, h6⟩ := h.ex
  have := qh_mend h1 x
  rw [hm] at this
  refine this.mono ?_
  rintro e w' ⟨rfl, k1, tp⟩
  exact ⟨rfl, h.did h5 h6 tp k1 h4⟩
theorem MdB.openT (h : MdB O w0 w t q tb wb lb S W) {l : List (List Nat)} {S' : Nat → TS} (ho : tOpn S none = (0, l, S', none)) : Calls Try.prog 18 #[tri q] w fun e w' =>
    ∃ t' v u, e = .returned (.tuple #[.pointer (some ⟨t', 0, none⟩), v, .int .i64 0]) ∧ RRs w' v l ∧ Up Nul w0 w' ∧ OwnV 9 w0.heap.size w' u (SrV W) ∧ w'.cell? ⟨wb, 0, none⟩ = some u ∧ wb < w'.heap.size := by
  obtain ⟨N, v, h1, h4, h5, h6⟩ := h.ex
  refine (qh_openE h1 ho).mono ?_
  rintro e w' ⟨t', r, rfl, hr, k1, tp⟩
  have hw : w'.heap[wb]? = some (.cells #[v] 29 (0, 0)) := (tp.2 wb (.inr (.inl rfl))).trans h6
  exact ⟨t', r, v, rfl, hr, k1.up, h5.stay tp fun x hx => .inr (.inr (.inr hx)), by simp [World.cell?, hw], (Array.getElem?_eq_some_iff.1 hw).1⟩
end
theorem nlv_but {S : Nat → TS} {x : Nat} (hx : x < 3) (h : ∀ j, j < 3 → (S j).live = !decide (j = x)) : nlv S = 2 := by
  unfold nlv
  rw [h 0 (by omega), h 1 (by omega), h 2 (by omega)]
  match x, hx with
  | 0, _ => rfl
  | 1, _ => rfl
  | 2, _ => rfl
/-- One Tape of three is lost. -/
theorem MdI.lost {W : List (List Nat)} {S : Nat → TS} (h : MdI W (fun _ => true) S) {x : Nat} (hx : x < 3) : MdI W (fun j => !decide (j = x)) (updT S x ⟨(S x).B, (S x).loose, false⟩) ∧ 2 ≤ nlv (updT S x ⟨(S x).B, (S x).loose, false⟩) := by
  have hl : ∀ j, j < 3 → (updT S x ⟨(S x).B, (S x).loose, false⟩ j).live = !decide (j = x) := fun j hj => by
    by_cases e : j = x
    · rw [e, updT_same]; simp
    · rw [updT_other _ _ e, h.live j hj]; simp [e]
  refine ⟨⟨hl, fun j hj hv => ?_, h.recs⟩, by rw [nlv_but hx hl]; omega⟩
  have e : ¬ j = x := by simpa using hv
  rw [updT_other _ _ e]
  exact h.flat j hj rfl
/-- It is replaced and mended. -/
theorem MdI.mend {W : List (List Nat)} {S : Nat → TS} {x : Nat} (h : MdI W (fun j => !decide (j = x)) S) (hx : x < 3) : ∃ S', tMnd (updT S x ⟨[], 0, true⟩) none (x : Nat) = (0, S', none) ∧ MdI W (fun _ => true) S' ∧ 2 ≤ nlv S' := by
  obtain ⟨j, hj, hjx, hf⟩ : ∃ j, j < 3 ∧ ¬ j = x ∧ frm (updT S x ⟨[], 0, true⟩) x = some j := by
    match x, hx with
    | 0, _ => exact ⟨1, by omega, by omega, by unfold frm; simp [List.range, List.range.loop, updT, h.live 1 (by omega)]⟩
    | 1, _ => exact ⟨0, by omega, by omega, by unfold frm; simp [List.range, List.range.loop, updT, h.live 0 (by omega)]⟩
    | 2, _ => exact ⟨0, by omega, by omega, by unfold frm; simp [List.range, List.range.loop, updT, h.live 0 (by omega)]⟩
  refine ⟨_, mnd_none hx (by rw [updT_same]) hf, ?_⟩
  have hsj : updT S x ⟨[], 0, true⟩ j = ⟨flt W, 0, true⟩ := by rw [updT_other _ _ hjx]; exact h.flat j hj (by simpa using hjx)
  rw [hsj]
  have hl : ∀ i, i < 3 → updT (updT S x ⟨[], 0, true⟩) x ⟨flt W, 0, true⟩ i = ⟨flt W, 0, true⟩ := fun i hi => by
    by_cases e : i = x
    · rw [e, updT_same]
    · rw [updT_other _ _ e, updT_other _ _ e]
      exact h.flat i hi (by simpa using e)
  exact ⟨⟨fun i hi => by rw [hl i hi], fun i hi _ => hl i hi, h.recs⟩, by rw [nlv_all fun i hi => by rw [hl i hi]]; omega⟩
/-- All is told. -/
theorem MdI.open {W : List (List Nat)} {S : Nat → TS} {lv : Nat → Bool} (h : MdI W lv S) (h2 : 2 ≤ nlv S) : ∃ S', tOpn S none = (0, W, S', none) := by
  obtain ⟨S', e, _⟩ := opn_none h2
  have hb := bst_two (R := W) (z := [0]) (h := fun _ => false) (fun i hi hl => by
    rw [h.live i hi] at hl
    rw [h.flat i hi hl]
    have := spl_flt (fun y hy => (h.recs y hy).1) []
    rw [List.append_nil] at this
    rw [this]
    simp [spl_nil]) h2
  rw [if_neg (by simp [one])] at hb
  exact ⟨S', by rw [e, hb]⟩
set_option maxRecDepth 100000 in
set_option maxHeartbeats 3200000 in
theorem tmends_long (O : TrioOps) (a0 : Option Addr) (l0 c0 : Nat) (a1 : Option Addr) (l1 c1 : Nat) (a2 a3 : Int) (w : World) (hl : 8 < l0 ∨ 8 < l1) :
    Calls Try.prog 3 #[.slice a0 l0 c0, .slice a1 l1 c1, .int .i64 a2, .int .i64 a3] w fun e w' => e = .returned (.bool true) ∧ Below w.heap.size w w' := by
  have HN := hid (qh_new (fu := none) (k := none) O (Up.refl Nul w) rfl (fun f e => by cases e))
  have key : (8 : Int) < (l0 : Int) ∨ (¬ (8 : Int) < (l0 : Int) ∧ (8 : Int) < (l1 : Int)) := by omega
  clear hl
  rcases key with i1 | ⟨i1, i2⟩
  all_goals
    go_enter Try.func3, Try.ntmps3
    go_wp2_with fail
    refine HN.out.mono ?_
    rintro e w2 ⟨t, q, rfl, h1, u1⟩
    have U2 : Hid (Up Nul w (w2.alloc (.cells #[.pointer (some ⟨t, 0, none⟩)] 23))) := u1.alloc _
    clear h1 u1 HN
    go_wp2_with fail
    refine (qawake_any O _).mono ?_
    rintro e w3 ⟨rfl, k2⟩
    have H2 := hid (U2.out.trans k2)
    clear k2
    go_wp2
    go_ret
    exact ⟨rfl, H2.out.below (Nat.le_refl _) fun _ _ h => h⟩
set_option maxRecDepth 100000 in
set_option maxHeartbeats 6400000 in
theorem tmends_short (O : TrioOps) (a0 : Option Addr) (l0 c0 : Nat) (L0 : List (List Nat)) (a1 : Option Addr) (l1 c1 : Nat) (L1 : List (List Nat)) (a2 a3 : Int) (w : World) (r0 : RIn w a0 l0 L0) (r1 : RIn w a1 l1 L1) (hl : l0 ≤ 8 ∧ l1 ≤ 8) :
    Calls Try.prog 3 #[.slice a0 l0 c0, .slice a1 l1 c1, .int .i64 a2, .int .i64 a3] w fun e w' => e = .returned (.bool true) ∧ Below w.heap.size w w' := by
  have HN := hid (qh_new (fu := none) (k := none) O (Up.refl Nul w) rfl (fun f e => by cases e))
  have i1 : ¬ (8 : Int) < (l0 : Int) := by omega
  have i2 : ¬ (8 : Int) < (l1 : Int) := by omega
  have HL := hid hl
  have HR0 := hid r0
  have HR1 := hid r1
  have HLR : Hid (L0.length ≤ 8 ∧ L1.length ≤ 8) := ⟨by rw [r0.len]; exact hl.1, by rw [r1.len]; exact hl.2⟩
  obtain ⟨m2, hm2, _⟩ := FrL.i64_mask 8 (by omega) a2
  obtain ⟨m3, hm3, _⟩ := FrL.i64_mask 8 (by omega) a3
  have hm2 : bits .and .i64 a2 255 = (m2 : Int) := hm2
  have hm3 : bits .and .i64 a3 255 = (m3 : Int) := hm3
  obtain ⟨x, hx, hx3⟩ := FrL.rem_lit m2 3 (by omega)
  obtain ⟨y, hy, hy3⟩ := FrL.rem_lit m3 3 (by omega)
  have hx : (m2 : Int) % 3 = (x : Int) := hx
  have hy : (m3 : Int) % 3 = (y : Int) := hy
  have jx0 : (0 : Int) ≤ (x : Int) := by omega
  have jx : (x : Int) < 3 := by omega
  have jy0 : (0 : Int) ≤ (y : Int) := by omega
  have jy : (y : Int) < 3 := by omega
  have HX := hid hx3
  have HY := hid hy3
  clear r0 r1 hl hx3 hy3
  go_enter Try.func3, Try.ntmps3
  go_wp2_with fail
  refine HN.out.mono ?_
  rintro e w2 ⟨t, q, rfl, h1, u1⟩
  have H2 : Hid (QH O (fun x => x = w2.heap.size) w (w2.alloc (.cells #[.pointer (some ⟨t, 0, none⟩)] 23)) t q 0 none none (fun _ => ⟨[], 0, true⟩)) := h1.owns ((Up.refl Nul w2).alloc _) fun x hx => .inr ⟨by omega, by rw [hx]; simp⟩
  have HT2 : Hid ((w2.alloc (.cells #[.pointer (some ⟨t, 0, none⟩)] 23)).heap[w2.heap.size]? = some (.cells #[.pointer (some ⟨t, 0, none⟩)] 23 (0, 0))) := heap_alloc_new _ _
  have HB2 : Hid (w.heap.size ≤ w2.heap.size) := u1.size
  clear h1 u1 HN
  go_wp2_with fail
  rw [hx, hy]
  clear hm2 hm3 hx hy
  generalize hwa : World.alloc w2 _ = wa at H2 HT2 ⊢
  generalize hta : w2.heap.size = tb at H2 HT2 HB2 ⊢
  clear hwa hta
  refine (qh_tapes H2.out).mono ?_
  rintro e w3 ⟨rfl, h3, u3⟩
  have HT3 : Hid (w3.heap[tb]? = some (.cells #[.pointer (some ⟨t, 0, none⟩)] 23 (0, 0))) := (u3.block tb (Array.getElem?_eq_some_iff.1 HT2.out).1 id).trans HT2.out
  have H3 := hid h3
  clear h3 u3 H2 HT2
  unfold tri
  obtain ⟨C3, HC3⟩ : ∃ C3, Hid (C3 = Obj.cells #[.pointer (some ⟨q 0, 0, none⟩), .pointer (some ⟨q 1, 0, none⟩), .pointer (some ⟨q 2, 0, none⟩)] 27 (0, 0)) := ⟨_, rfl⟩
  have HS : Hid (MdS O w ((w3.alloc (.cells #[.pointer (some ⟨q 0, 0, none⟩), .pointer (some ⟨q 1, 0, none⟩), .pointer (some ⟨q 2, 0, none⟩)] 27)).alloc (.cells #[.slice none 0 0] 29)) t q tb (w3.heap.size + 1) w3.heap.size (fun _ => true) []) := by
    have hs3 : w.heap.size ≤ w3.heap.size := H3.out.up.size
    have htl := (Array.getElem?_eq_some_iff.1 HT3.out).1
    have e1 : (w3.alloc (.cells #[.pointer (some ⟨q 0, 0, none⟩), .pointer (some ⟨q 1, 0, none⟩), .pointer (some ⟨q 2, 0, none⟩)] 27)).heap.size = w3.heap.size + 1 := by simp
    refine ⟨⟨0, _, .slice none 0 0, H3.out.owns (((Up.refl Nul w3).alloc _).alloc _) fun x hx => ?_, ⟨fun _ _ => rfl, fun _ _ _ => rfl, fun y hy => by cases hy⟩, by decide, Nat.le_refl _, OwnV.nil _ _ _, ?_⟩, ?_, ?_, HB2.out, by omega, hs3⟩
    · rcases hx with e | e | e | e
      · exact .inl e
      · exact .inr ⟨by omega, by rw [e]; simp⟩
      · exact .inr ⟨by omega, by rw [e]; simp; omega⟩
      · cases e
    · rw [← e1]; exact heap_alloc_new _ _
    · rw [heap_alloc_old _ _ (by rw [e1]; omega), heap_alloc_old _ _ htl]; exact HT3.out
    · rw [heap_alloc_old _ _ (by rw [e1]; omega)]; exact heap_alloc_new _ _
  have HWN : Hid ((w3.alloc (.cells #[.pointer (some ⟨q 0, 0, none⟩), .pointer (some ⟨q 1, 0, none⟩), .pointer (some ⟨q 2, 0, none⟩)] 27)).heap.size = w3.heap.size + 1) := by show _ = _; simp
  clear H3 HT3 HC3 C3
  go_wp2_with fail
  generalize World.alloc (World.alloc w3 _) _ = w4 at HS ⊢
  generalize w3.heap.size + 1 = wb at HS ⊢
  generalize w3.heap.size = lb at HS ⊢
  clear HWN
  refine (mput_any O HS.out c0 HR0.out HL.out.1 (by simp)).mono ?_
  rintro e w5 ⟨rfl, h5⟩
  obtain ⟨W1, HW1⟩ : ∃ W1, Hid (([] : List (List Nat)) ++ okR L0 = W1) := ⟨_, rfl⟩
  have HL1 : Hid (W1.length ≤ 8) := by show _ ≤ _; rw [← HW1.out]; have := okR_len L0; have := HLR.out; simp; omega
  rw [HW1.out] at h5
  obtain ⟨S5, b5, i5, _⟩ := h5.open
  have HB5 := hid b5
  have HI5 := hid i5
  have cx := b5.l3.cell x HX.out
  clear h5 b5 i5 HS HB2
  go_wp2_with fail
  refine (HB5.out.fail HX.out).mono ?_
  rintro e w6 ⟨rfl, b6⟩
  have H6 := hid (b6.close (HI5.out.lost HX.out).1 (HI5.out.lost HX.out).2)
  clear b6 HB5 HI5 cx
  go_wp2_with fail
  refine (mput_any O H6.out c1 HR1.out HL.out.2 (by have := HL1.out; omega)).mono ?_
  rintro e w7 ⟨rfl, h7⟩
  obtain ⟨W2, HW2⟩ : ∃ W2, Hid (W1 ++ okR L1 = W2) := ⟨_, rfl⟩
  have HL2 : Hid (W2.length ≤ 16) := by show _ ≤ _; rw [← HW2.out, List.length_append]; have := okR_len L1; have := HLR.out; have := HL1.out; omega
  rw [HW2.out] at h7
  obtain ⟨S7, b7, i7, _⟩ := h7.open
  have HB7 := hid b7
  have HI7 := hid i7
  have cx := b7.l3.cell x HX.out
  clear h7 b7 i7 H6
  go_wp2_with fail
  refine (HB7.out.replace HX.out).mono ?_
  rintro e w8 ⟨rfl, b8⟩
  obtain ⟨S8, hm8, i8, n8⟩ := HI7.out.mend HX.out
  have HM8 := hid (b8.mend hm8)
  have HI8 := hid (And.intro i8 n8)
  have ct := b8.ct
  clear b8 HB7 HI7 cx hm8 i8 n8
  go_wp2_with fail
  refine HM8.out.mono ?_
  rintro e w9 ⟨rfl, b9⟩
  have H9 := hid (b9.close HI8.out.1 HI8.out.2)
  clear b9 HM8 HI8 ct
  go_wp2_with fail
  refine (mput_any O H9.out c0 HR0.out HL.out.1 (by have := HL2.out; omega)).mono ?_
  rintro e w10 ⟨rfl, h10⟩
  obtain ⟨W3, HW3⟩ : ∃ W3, Hid (W2 ++ okR L0 = W3) := ⟨_, rfl⟩
  have HL3 : Hid (W3.length ≤ 24) := by show _ ≤ _; rw [← HW3.out, List.length_append]; have := okR_len L0; have := HLR.out; have := HL2.out; omega
  rw [HW3.out] at h10
  obtain ⟨S10, b10, i10, _⟩ := h10.open
  have HB10 := hid b10
  have HI10 := hid i10
  have cy := b10.l3.cell y HY.out
  clear h10 b10 i10 H9
  go_wp2_with fail
  refine (HB10.out.fail HY.out).mono ?_
  rintro e w11 ⟨rfl, b11⟩
  obtain ⟨i11, n11⟩ := HI10.out.lost HY.out
  obtain ⟨S12, ho⟩ := i11.open n11
  have HOP := hid (b11.openT ho)
  unfold tri at HOP
  have k0 := b11.l3.cell 0 (by omega)
  have k1 := b11.l3.cell 1 (by omega)
  have k2 := b11.l3.cell 2 (by omega)
  have HRC := hid i11.recs
  clear b11 i11 n11 ho HB10 HI10 cy
  go_wp2_with fail
  refine HOP.out.mono ?_
  rintro e w12 ⟨t', v, u, rfl, hr, up, ho, cu, lu⟩
  have HR12 := hid hr
  have UP := hid up
  have HO12 := hid ho
  have HCU : Hid (∀ V, Up Nul w12 V → V.cell? ⟨wb, 0, none⟩ = some u) := fun V uu => (uu.cell (p := ⟨wb, 0, none⟩) lu id).trans cu
  have HST : Hid (∀ V, Up Nul w12 V → Calls Try.prog 20 #[v] V fun e w' => ∃ v', e = .returned v' ∧ OwnV 9 V.heap.size w' v' (SrV W3) ∧ Up Nul V w') := fun V uu => strings_all (HR12.out.nxt uu) (by have := HL3.out; omega)
  have HSM : Hid (∀ V v', Up Nul w12 V → RowS V v' W3 → Calls Try.prog 19 #[v', u] V fun e w' => e = .returned (.bool true) ∧ Up Nul V w') := fun V v' uu hv => by
    have := same_all hv (HO12.out.rowS.nxt uu) ⟨by have := HL3.out; omega, by have := HL3.out; omega⟩ (fun y hy => (HRC.out y hy).2) fun y hy => (HRC.out y hy).2
    rw [decide_eq_true rfl] at this
    exact this
  have HR0' : Hid (Up Nul w12 w12) := Up.refl _ _
  clear hr up ho cu lu HOP k0 k1 k2
  go_wp2_with fail
  go_region_held3 (fun V => Up Nul w12 V ∧ V.cell? ⟨wb, 0, none⟩ = some u)
    (first | exact ⟨by assumption, HCU.out _ (by assumption)⟩ | exact ⟨HR0'.out.drew, HCU.out _ HR0'.out.drew⟩)
    (first
      | (go_at_call 20; (with_reducible refine (HST.out _ (by first | exact HR0'.out.drew | assumption)).mono ?_); rintro e wS ⟨vS, rfl, oS, kS⟩; have rS : RowS wS vS W3 := OwnV.rowS oS; have uS : Up Nul w12 wS := (by first | exact HR0'.out.drew.trans kS | exact Up.trans (by assumption) kS); clear kS oS)
      | (go_at_call 19; (with_reducible refine (HSM.out _ _ uS rS).mono ?_); rintro e wT ⟨rfl, kT⟩; have uT : Up Nul w12 wT := uS.trans kT; clear kT)
      | (go_at_call 11; (with_reducible refine (qawake_any O _).mono ?_); rintro e wU ⟨rfl, kU⟩; have uU : Up Nul w12 wU := uT.trans kU; clear kU)
      | fail)
  all_goals
    have UF := hid (UP.out.trans uU)
    go_wp2_with fail
    go_ret
    exact ⟨rfl, UF.out.below (Nat.le_refl _) fun _ _ h => h⟩
theorem tmends_walk (O : TrioOps) (a0 : Option Addr) (l0 c0 : Nat) (a1 : Option Addr) (l1 c1 : Nat) (a2 a3 : Int) (w : World) (w0 : CamS w a0 l0 c0) (w1 : CamS w a1 l1 c1) :
    Calls Try.prog 3 #[.slice a0 l0 c0, .slice a1 l1 c1, .int .i64 a2, .int .i64 a3] w fun e w' => e = .returned (.bool true) ∧ Below w.heap.size w w' := by
  by_cases h : l0 ≤ 8 ∧ l1 ≤ 8
  · obtain ⟨L0, r0⟩ := w0.rin
    obtain ⟨L1, r1⟩ := w1.rin
    exact tmends_short O a0 l0 c0 L0 a1 l1 c1 L1 a2 a3 w r0 r1 h
  · exact tmends_long O a0 l0 c0 a1 l1 c1 a2 a3 w (by omega)
end Go.Proofs.Ytencinajieicpaa
