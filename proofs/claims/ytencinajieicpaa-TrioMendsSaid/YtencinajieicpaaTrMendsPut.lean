/- The law TrioMends' own 'put'. -/
import Derived.Test.YtencinajieicpaaTrKeepsWalk
namespace Go.Proofs.Ytencinajieicpaa
open Go.RowKit
set_option linter.unusedVariables false

/-- Those that may be records. -/
def okR (R : List (List Nat)) : List (List Nat) := R.filter fun z => decide (1 ≤ z.length ∧ z.length ≤ 250)
theorem okR_append (R M : List (List Nat)) : okR (R ++ M) = okR R ++ okR M := by simp [okR]
theorem okR_len (R : List (List Nat)) : (okR R).length ≤ R.length := List.length_filter_le _ _
theorem okR_yes {z : List Nat} (h : 1 ≤ z.length ∧ z.length ≤ 250) : okR [z] = [z] := by simp [okR, h]
theorem okR_no {z : List Nat} (h : ¬ (1 ≤ z.length ∧ z.length ≤ 250)) : okR [z] = [] := by
  unfold okR
  rw [List.filter_cons, if_neg (by simpa using h)]
  rfl
/-- The live Tapes have just the records W. -/
structure MdI (W : List (List Nat)) (lv : Nat → Bool) (S : Nat → TS) : Prop where
  live : ∀ j, j < 3 → (S j).live = lv j
  flat : ∀ j, j < 3 → lv j = true → S j = ⟨flt W, 0, true⟩
  recs : ∀ y ∈ W, RecB y
theorem MdI.app {W : List (List Nat)} {lv : Nat → Bool} {S : Nat → TS} (h : MdI W lv S) (h2 : 2 ≤ nlv S) {z : List Nat} (hz : RecB z) (hl : W.length ≤ 200) :
    ∃ S', tApp S none z = (0, S', none) ∧ MdI (W ++ [z]) lv S' ∧ 2 ≤ nlv S' := by
  obtain ⟨S', e, hS⟩ := app_none hz.1 h2 fun i hi hl2 => by
    rw [h.live i hi] at hl2
    rw [h.flat i hi hl2]
    have := flt_le h.recs
    have := hz.1
    unfold Rec at this
    show (flt W).length + _ ≤ _
    omega
  have hlv : ∀ j, j < 3 → (S' j).live = lv j := fun j hj => by
    rw [hS j hj]
    cases hv : (S j).live with
    | true => rw [h.live j hj] at hv; rw [if_pos rfl, hv]
    | false => rw [if_neg (by decide), h.live j hj]
  refine ⟨S', e, ⟨hlv, fun j hj hv => ?_, fun y hy => ?_⟩, ?_⟩
  · rw [hS j hj, if_pos (by rw [h.live j hj]; exact hv), h.flat j hj hv, flt_append, flt_one]
  · rcases List.mem_append.1 hy with e | e
    · exact h.recs y e
    · rw [List.mem_singleton.1 e]; exact hz
  · unfold nlv at h2 ⊢
    rw [hlv 0 (by omega), hlv 1 (by omega), hlv 2 (by omega), ← h.live 0 (by omega), ← h.live 1 (by omega), ← h.live 2 (by omega)]
    exact h2
/-- The law's blocks. -/
def MdP (tb wb lb : Nat) (v : Value) (x : Nat) : Prop := x = tb ∨ x = wb ∨ x = lb ∨ v.ownBlock = some x
theorem l3_of {w : World} {lb : Nat} {q : Nat → Nat} (h : w.heap[lb]? = some (.cells #[.pointer (some ⟨q 0, 0, none⟩), .pointer (some ⟨q 1, 0, none⟩), .pointer (some ⟨q 2, 0, none⟩)] 27 (0, 0))) : L3 w lb q := ⟨fun i hi => by
  match i, hi with
  | 0, _ => simp [World.cell?, h]
  | 1, _ => simp [World.cell?, h]
  | 2, _ => simp [World.cell?, h], (Array.getElem?_eq_some_iff.1 h).1⟩
/-- A row of strings is no other block. -/
theorem row_ne {base : Nat} {w : World} {v : Value} {xs : List Value} {g b : Nat} {A : Array Value} {T : TypeId} (h : OwnV 9 base w v xs) (hg : v.ownBlock = some g) (hb : w.heap[b]? = some (.cells A T (0, 0))) (ht : T ≠ 9) : g ≠ b := by
  rcases h.2 with ⟨e1, _⟩ | ⟨gg, cap, cur, e1, _, hh, _⟩
  · rw [e1] at hg; cases hg
  · rw [e1] at hg
    obtain rfl : gg = g := by simpa [Value.ownBlock] using hg
    exact ne_type hh hb fun e => ht e.symm
/-- Where the law stands. -/
structure MdS (O : TrioOps) (w0 w : World) (t : Nat) (q : Nat → Nat) (tb wb lb : Nat) (lv : Nat → Bool) (W : List (List Nat)) : Prop where
  ex : ∃ N S v, QH O (MdP tb wb lb v) w0 w t q N none none S ∧ MdI W lv S ∧ 2 ≤ nlv S ∧ N ≤ W.length ∧ OwnV 9 w0.heap.size w v (SrV W) ∧ w.heap[wb]? = some (.cells #[v] 29 (0, 0))
  tc : w.heap[tb]? = some (.cells #[.pointer (some ⟨t, 0, none⟩)] 23 (0, 0))
  lh : w.heap[lb]? = some (.cells #[.pointer (some ⟨q 0, 0, none⟩), .pointer (some ⟨q 1, 0, none⟩), .pointer (some ⟨q 2, 0, none⟩)] 27 (0, 0))
  old : w0.heap.size ≤ tb ∧ w0.heap.size ≤ wb ∧ w0.heap.size ≤ lb
set_option maxRecDepth 100000 in
set_option maxHeartbeats 6400000 in
theorem mput_any (O : TrioOps) {w0 w : World} {t : Nat} {q : Nat → Nat} {tb wb lb : Nat} {lv : Nat → Bool} {W : List (List Nat)} (h : MdS O w0 w t q tb wb lb lv W) {a : Option Addr} {l : Nat} (c : Nat) {R : List (List Nat)} (hR : RIn w0 a l R) (hl : l ≤ 8) (hW : W.length ≤ 100) :
    Calls Try.prog 13 #[.slice a l c, .pointer (some ⟨tb, 0, none⟩), .pointer (some ⟨wb, 0, none⟩)] w fun e w' => e = .returned (.bool true) ∧ MdS O w0 w' t q tb wb lb lv (W ++ okR R) := by
  have HR := hid hR
  have HM := hid h
  have HL : Hid (l ≤ 8 ∧ W.length ≤ 100) := ⟨hl, hW⟩
  have HTK : Hid (R.take l = R) := by show _ = _; rw [← hR.len, List.take_length]
  clear hR h hl hW
  go_enter Try.func13, Try.ntmps13
  go_wp2_with fail
  go_loopw [5] (fun i wr => ∃ j : Nat, j ≤ l ∧ i = .int .i64 (j : Nat) ∧ MdS O w0 wr t q tb wb lb lv (W ++ okR (R.take j))) (fun i _ => l - (intOf i).toNat)
  case atStart => exact ⟨0, Nat.zero_le _, rfl, by rw [List.take_zero]; simpa [okR] using HM.out⟩
  case round =>
    obtain ⟨j, hj, rfl, hm⟩ := hrel
    have HS := hid hm
    clear hm HM
    have j0 : (0 : Int) ≤ (j : Int) := by omega
    have i2 : (l : Int) ≤ 8 := by have := HL.out; omega
    by_cases hlt : j < l
    · have j1 : (j : Int) < (l : Int) := by omega
      have HJ := hid hlt
      obtain ⟨N, S, v, h1, h2, h3, h4, h5, h6⟩ := HS.out.ex
      obtain ⟨g, o, z, ea, ec, rfl, hzj, hsl, hec, hcell⟩ := HR.out.at hlt
      have HCE := hid hcell
      have HSL := hid hsl
      have HEC := hid hec
      have HNX : Hid (R.take (j + 1) = R.take j ++ [z]) := by
        have hjl : j < R.length := by rw [HR.out.len]; exact hlt
        rw [List.getElem?_eq_getElem hjl] at hzj
        injection hzj with hz
        show _ = _
        rw [List.take_succ_eq_append_getElem hjl, hz]
      have y0 := hcell _ h1.up
      obtain ⟨zl, ZL⟩ : ∃ zl, Hid (z.length = zl) := ⟨_, rfl⟩
      rw [ZL.out] at y0 HSL HEC HCE
      clear hcell hsl hec hzj hlt hj
      by_cases hbad : zl = 0 ∨ 250 < zl
      · have HN : Hid (W ++ okR (R.take (j + 1)) = W ++ okR (R.take j)) := by
          show _ = _
          rw [HNX.out, okR_append, okR_no (by rw [ZL.out]; omega), List.append_nil]
        rcases hbad with e | e
        · have k2 : ((zl : Int) == 0) = true := by simp [e]
          clear e h1 h2 h3 h4 h5 h6
          go_wp2_with fail
          go_roundw
          case rel => exact ⟨j + 1, HJ.out, by go_num, by rw [HN.out]; exact HS.out⟩
          case measure => have := HJ.out; simp [intOf]; omega
        · have k1 : (250 : Int) < (zl : Int) := by omega
          have k2 : ((zl : Int) == 0) = false := by simp; omega
          clear e h1 h2 h3 h4 h5 h6
          go_wp2_with fail
          go_roundw
          case rel => exact ⟨j + 1, HJ.out, by go_num, by rw [HN.out]; exact HS.out⟩
          case measure => have := HJ.out; simp [intOf]; omega
      · have k1 : ¬ (250 : Int) < (zl : Int) := by omega
        have k2 : ((zl : Int) == 0) = false := by simp; omega
        have HZR : Hid (RecB z) := ⟨by unfold Rec; rw [ZL.out]; omega, HSL.out.smalls⟩
        have HN : Hid (W ++ okR (R.take (j + 1)) = (W ++ okR (R.take j)) ++ [z]) := by
          show _ = _
          rw [HNX.out, okR_append, okR_yes (by rw [ZL.out]; omega), List.append_assoc]
        clear hbad
        obtain ⟨S', hap, hm', hn'⟩ := h2.app h3 HZR.out (by
          have e1 := okR_len (R.take j)
          have := HL.out
          have := HJ.out
          rw [List.length_append]
          rw [List.length_take] at e1
          omega)
        have H1 := hid h1
        have HM' := hid hm'
        have HN' := hid hn'
        have H4 := hid h4
        have H5 := hid h5
        have H6 := hid h6
        have HAP := hid hap
        have ct : wr.cell? ⟨tb, 0, none⟩ = some (.pointer (some ⟨t, 0, none⟩)) := by simp [World.cell?, HS.out.tc]
        clear h1 h2 h3 h4 h5 h6 hap hm' hn'
        go_upto_region 5 with fail
        have ct' : wr.drew.cell? ⟨tb, 0, none⟩ = some (.pointer (some ⟨t, 0, none⟩)) := ct
        have y0' : wr.drew.cell? ⟨g, o + j, none⟩ = some (.slice ea zl ec) := y0
        go_still_tail 5, (by kernel_rfl)
        change wpList _ _ _ _ _ wr.drew
        have HD := hid (H1.out.nxt ((Up.refl Nul wr).drew))
        have HTC := hid HS.out.tc
        have HL3 := hid HS.out.lh
        have HOLD := hid HS.out.old
        have H5D : Hid (OwnV 9 w0.heap.size wr.drew v (SrV (W ++ okR (R.take j)))) := H5.out
        have H6D : Hid (wr.drew.heap[wb]? = some (.cells #[v] 29 (0, 0))) := H6.out
        have HTD : Hid (wr.drew.heap[tb]? = some (.cells #[.pointer (some ⟨t, 0, none⟩)] 23 (0, 0))) := HTC.out
        have HLD : Hid (wr.drew.heap[lb]? = some (.cells #[.pointer (some ⟨q 0, 0, none⟩), .pointer (some ⟨q 1, 0, none⟩), .pointer (some ⟨q 2, 0, none⟩)] 27 (0, 0))) := HL3.out
        clear ct ct' y0 y0' HS H1 H5 H6 HTC HL3
        generalize wr.drew = wd at HD H5D H6D HTD HLD ⊢
        have HA := hid (qh_appendE HD.out (by
          have := H4.out
          have e1 := okR_len (R.take j)
          have := HL.out
          have := HJ.out
          rw [List.length_append] at *
          rw [List.length_take] at e1
          omega) ec (HSL.out.nxt HD.out.up) HEC.out (by have := HZR.out.1; unfold Rec at this; rw [ZL.out] at this; omega) (by
            rcases HSL.out.row with e | ⟨bb, oo, e, hb, _⟩
            · exact .inl e
            · exact .inr fun y hy => .inr (by rw [e] at hy; cases hy; exact hb)) HAP.out)
        go_wp2_with fail
        refine HA.out.mono ?_
        rintro e w4 ⟨rfl, h4, tp⟩
        have H7 : Hid (QH O (MdP tb wb lb v) w0 w4 t q (N + 1) none none S') := h4
        have HO7 := hid (H5D.out.stay tp fun x hx => .inr (.inr (.inr hx)))
        have HW7 : Hid (w4.heap[wb]? = some (.cells #[v] 29 (0, 0))) := (tp.2 wb (.inr (.inl rfl))).trans H6D.out
        have HT7 : Hid (w4.heap[tb]? = some (.cells #[.pointer (some ⟨t, 0, none⟩)] 23 (0, 0))) := (tp.2 tb (.inl rfl)).trans HTD.out
        have HL7 : Hid (w4.heap[lb]? = some (.cells #[.pointer (some ⟨q 0, 0, none⟩), .pointer (some ⟨q 1, 0, none⟩), .pointer (some ⟨q 2, 0, none⟩)] 27 (0, 0))) := (tp.2 lb (.inr (.inr (.inl rfl)))).trans HLD.out
        clear h4 tp HD H5D H6D HTD HLD HA HAP
        go_upto_region 7 with fail
        have y1 := HCE.out _ (H7.out.up.drew)
        have z1 := (HSL.out.nxt (H7.out.up.drew)).conv ec
        have cw : w4.drew.cell? ⟨wb, 0, none⟩ = some v := by
          have : w4.cell? ⟨wb, 0, none⟩ = some v := by simp [World.cell?, HW7.out]
          exact this
        obtain ⟨sz, SZ⟩ : ∃ sz, Hid (strOf z = sz) := ⟨_, rfl⟩
        rw [SZ.out] at z1
        obtain ⟨va, vc, rfl⟩ := HO7.out.shape
        obtain ⟨M, HMM⟩ : ∃ M, Hid (W ++ okR (R.take j) = M) := ⟨_, rfl⟩
        rw [HMM.out] at HM' HN H4 HO7 HW7 H7 cw
        have HML : Hid (M.length ≤ 1000) := by
          show _ ≤ _
          rw [← HMM.out, List.length_append]
          have e1 := okR_len (R.take j)
          have := HL.out
          have := HJ.out
          rw [List.length_take] at e1
          omega
        have HOD : Hid (OwnV 9 w0.heap.size w4.drew (.slice va (SrV M).length vc) (SrV M)) := HO7.out
        obtain ⟨v5, w5, hap5, ho5, hg5, hw5⟩ := run_append_str1 (HOD.out.alloc (.cells #[.string sz] 9)) SZ.out (World.cell?_alloc_new _ _ _ 0 : (w4.drew.alloc (.cells #[.string sz] 9)).cell? ⟨w4.drew.heap.size, 0, none⟩ = some (.string sz)) (cap := 1) HML.out (by have := H7.out.up.size; simp; omega) 29
        have hwl : wb < w4.heap.size := (Array.getElem?_eq_some_iff.1 HW7.out).1
        have hvw : ¬ Value.ownBlock (.slice va (SrV M).length vc) = some wb := fun e => by
          rcases HO7.out.2 with ⟨e1, _⟩ | ⟨gg, cap, cur, e1, _, hh, _⟩
          · rw [e1] at e; cases e
          · rw [e1] at e
            obtain rfl : gg = wb := by simpa [Value.ownBlock] using e
            exact ne_type hh HW7.out (by decide) rfl
        have hw5b : w5.heap[wb]? = some (.cells #[.slice va (SrV M).length vc] 29 (0, 0)) := by
          rw [hg5.block wb (by simp; omega) fun e => hvw e.symm]
          rw [heap_alloc_old _ _ (by exact hwl)]
          exact HW7.out
        have cw2 : (w4.drew.alloc (.cells #[.string sz] 9)).cell? ⟨wb, 0, none⟩ = some (.slice va (SrV M).length vc) := ((Up.refl Nul w4.drew).alloc _).cell (p := ⟨wb, 0, none⟩) hwl id |>.trans cw
        have cw3 : (w4.alloc (.cells #[.string sz] 9)).cell? ⟨wb, 0, none⟩ = some (.slice va (SrV M).length vc) := cw2
        have cw5 : w5.cell? ⟨wb, 0, none⟩ = some (.slice va (SrV M).length vc) := by simp [World.cell?, hw5b]
        have fw5 : w5.frozen? ⟨wb, 0, none⟩ = false := by simp [World.frozen?, hw5b]
        obtain ⟨a5, c5, rfl⟩ := ho5.shape
        have HO5 := hid ho5
        have HG5 := hid hg5
        have HW5 := hid hw5
        have HB5 := hid hw5b
        have HFIN : Hid (MdS O w0 (w5.setCell ⟨wb, 0, none⟩ (.slice a5 (SrV (M ++ [z])).length c5)) t q tb wb lb lv (M ++ [z])) := by
          have q1 : QH O (MdP tb wb lb (.slice va (SrV M).length vc)) w0 (w4.drew.alloc (.cells #[.string sz] 9)) t q (N + 1) none none S' := (H7.out.nxt ((Up.refl Nul w4).drew)).nxt ((Up.refl Nul w4.drew).alloc _)
          have q2 : QH O (MdP tb wb lb (.slice a5 (SrV (M ++ [z])).length c5)) w0 w5 t q (N + 1) none none S' := q1.grow hg5 (fun x hx => ⟨.inr (.inr (.inr hx)), (World.ownsRow.lt (HOD.out.alloc (.cells #[.string sz] 9)) x hx).1⟩) fun x hx => by
            rcases hx with e | e | e | e
            · exact .inl (.inl e)
            · exact .inl (.inr (.inl e))
            · exact .inl (.inr (.inr (.inl e)))
            · rcases hw5 with e2 | e2
              · exact .inl (.inr (.inr (.inr (by rw [← e2]; exact e))))
              · rw [e] at e2
                injection e2 with e2
                exact .inr ⟨by omega, (World.ownsRow.lt ho5 x e).2⟩
          have u : Up (One wb) w5 (w5.setCell ⟨wb, 0, none⟩ (.slice a5 (SrV (M ++ [z])).length c5)) := (Up.refl (One wb) w5).put rfl 0 _
          have q3 := q2.mine u (fun x e => .inr (.inl e)) fun x e => by rw [show x = wb from e]; exact HOLD.out.2.1
          have nty : ∀ {x y : Nat} {A B : Array Value} {T U : TypeId}, w4.heap[x]? = some (.cells A T (0, 0)) → w4.heap[y]? = some (.cells B U (0, 0)) → T ≠ U → x ≠ y := fun h1 h2 ht => ne_type h1 h2 ht
          have hne : tb ≠ wb := nty HT7.out HW7.out (by decide)
          have hnl : lb ≠ wb := nty HL7.out HW7.out (by decide)
          have hot : ∀ x, x ≠ wb → x < w4.heap.size → (Value.ownBlock (.slice va (SrV M).length vc) ≠ some x) → (w5.setCell ⟨wb, 0, none⟩ (.slice a5 (SrV (M ++ [z])).length c5)).heap[x]? = w4.heap[x]? := fun x h1 h2 h3 => by
            rw [u.block x (Nat.lt_of_lt_of_le (by simp; omega) hg5.size) h1, hg5.block x (by simp; omega) fun e => h3 e.symm, heap_alloc_old _ _ (by exact h2)]
            rfl
          refine ⟨⟨N + 1, S', _, q3, HM'.out, HN'.out, by rw [List.length_append]; exact Nat.add_le_add_right H4.out 1, ho5.keep fun g hg => u.block g (World.ownsRow.lt ho5 g hg).2 fun e => row_ne ho5 hg hw5b (by decide) e, ?_⟩, ?_, ?_, HOLD.out⟩
          · rw [heap_setCell_same w5 wb 0 _ _ _ hw5b]
            rfl
          · exact (hot tb hne (Array.getElem?_eq_some_iff.1 HT7.out).1 fun e => row_ne HO7.out e HT7.out (by decide) rfl).trans HT7.out
          · exact (hot lb hnl (Array.getElem?_eq_some_iff.1 HL7.out).1 fun e => row_ne HO7.out e HL7.out (by decide) rfl).trans HL7.out
        clear ho5 hg5 hw5 hw5b hvw hwl
        generalize (SrV M).length = ml at HO7 HW7 cw cw2 cw3 cw5 HOD hap5 HG5 HW5 HB5
        generalize (SrV (M ++ [z])).length = ml5 at hap5 HO5 HW5 HFIN
        go_region_law (first | (refine step_append_eqv (by rfl) (.tmp 33) (.tmp 39) 29 (by rfl) (.slice va ml vc) (.slice (some ⟨w4.heap.size, 0, none⟩) 1 1) (.slice a5 ml5 c5) (by rfl) (by rfl) hap5 ?_) | fail)
        all_goals
          clear hap5
          go_wp2_with fail
          go_roundw
          case rel => exact ⟨j + 1, HJ.out, by go_num, by rw [HN.out]; exact HFIN.out⟩
          case measure => have := HJ.out; simp [intOf]; omega
    · obtain rfl : j = l := by omega
      have HE : Hid (MdS O w0 wr t q tb wb lb lv (W ++ okR R)) := by have := HS.out; rw [HTK.out] at this; exact this
      go_wp2_with fail
      go_ret
      exact ⟨rfl, HE.out⟩
end Go.Proofs.Ytencinajieicpaa
