/- Stage 12's law 'SplitBack', walked over any program's Trio. -/
import Derived.Test.YtencinajieicpaaTrTwoApp
import Derived.Test.YtencinajieicpaaTrSplit
import Derived.Test.YtencinajieicpaaTrKeepsWalk
import Derived.Deep.RegionHeld3
namespace Go.Proofs.Ytencinajieicpaa
open Go.RowKit
set_option linter.unusedVariables false

theorem SlN.upb {w : World} {a : Option Addr} {n : Nat} {z : List Nat} (h : SlN w a n z) {k : Nat} (hk : k ≤ n) : SlN w a k (z.take k) := by
  refine ⟨by rw [List.length_take, h.len]; omega, ?_, by have := h.le; omega⟩
  rcases h.row with e | ⟨b, o, e, hb, r⟩
  · exact .inl (by omega)
  · refine .inr ⟨b, o, e, hb, fun i hi => ?_, fun i => ?_⟩
    · rw [List.length_take] at hi
      rw [r.cells i (by rw [h.len]; omega)]
      simp [List.getD_eq_getElem?_getD, show i < k by omega]
    · have := r.small i
      simp only [List.getD_eq_getElem?_getD, List.getElem?_take] at this ⊢
      split
      · exact this
      · simp
theorem RowS.take {w : World} {a : Option Addr} {m c : Nat} {l : List (List Nat)} (h : RowS w (.slice a m c) l) (n : Nat) (hn : n ≤ l.length) : RowS w (.slice a n c) (l.take n) := by
  obtain ⟨a', c', e, h⟩ := h
  injection e with e1 e2 e3
  subst e1; subst e3
  have hl : (l.take n).length = n := by rw [List.length_take]; omega
  refine ⟨a, c, by rw [hl], ?_⟩
  rcases h with h | ⟨g, o, e1, hg, h⟩
  · exact .inl (by omega)
  · refine .inr ⟨g, o, e1, hg, fun i z hi => h i z ?_⟩
    have hin : i < n := by
      rcases Nat.lt_or_ge i n with h | h
      · exact h
      · rw [List.getElem?_eq_none (by omega)] at hi; cases hi
    rw [List.getElem?_take, if_pos hin] at hi
    exact hi
theorem strs_upto (a : Option Addr) (n cap k : Nat) (hk : k ≤ cap) (w : World) :
    (Instr.slice 29 (.slice a n cap) none (some (.int .i64 k)) none).run Try.prog w = .ok (.slice a k cap) w := by
  have hs : (sizeOf (Try.prog.elem 29)).run Try.prog w = .ok 1 w := by
    have h : (Try.prog.info? (Try.prog.elem 29)).map (·.size) = some 1 := by kernel_rfl
    obtain ⟨i, hi, hs⟩ := Option.map_eq_some_iff.1 h
    simp [sizeOf, typeInfo, hi, hs]
  rw [run_slice_h (P := Try.prog) (w := w) 29 a n cap (by kernel_rfl) .i64 k (by omega) (by omega), hs]
  have e : ∀ x : Addr, x.add 0 = x := fun x => by simp [Addr.add]
  cases a <;> simp [Result.andThen, sliced, e]
theorem fltR_len {R : List (List Nat)} (h : ∀ y ∈ R, RecB y) : (flt R).length ≤ 251 * R.length := by
  induction R with
  | nil => exact Nat.le_refl _
  | cons z R ih =>
    rw [flt_cons, List.length_append, enc_length, List.length_cons]
    have := ih fun y hy => h y (List.mem_cons_of_mem _ hy)
    have := (h z (List.mem_cons_self ..)).1
    unfold Rec at this
    omega
/-- What the law has put together: its bytes and its strings. -/
structure BkI (w0 w : World) (vb vw : Value) (R : List (List Nat)) : Prop where
  b : OwnB w0.heap.size w vb (flt R)
  s : OwnV 9 w0.heap.size w vw (SrV R)
  recs : ∀ y ∈ R, RecB y
  up : Up Nul w0 w
theorem row_far {base : Nat} {w : World} {vb vw : Value} {z : List Nat} {xs : List Value} (hb : OwnB base w vb z) (hs : OwnV 9 base w vw xs) : ∀ g, vb.ownBlock = some g → ¬ vw.ownBlock = some g := fun g hg e => by
  obtain ⟨cur, hc⟩ := hb.bk g hg
  rcases hs.2 with ⟨e1, _⟩ | ⟨gg, cap, cu2, e1, _, hh, _⟩
  · rw [e1] at e; cases e
  · rw [e1] at e
    obtain rfl : gg = g := by simpa [Value.ownBlock] using e
    exact ne_type hh hc (by decide) rfl
set_option maxRecDepth 100000 in
set_option maxHeartbeats 12800000 in
theorem sback_in (O : TrioOps) (a0 : Option Addr) (l0 c0 : Nat) (L0 : List (List Nat)) (a1 : Int) (w : World) (w0 : RIn w a0 l0 L0) :
    Calls Try.prog 5 #[.slice a0 l0 c0, .int .i64 a1] w fun e w' => e = .returned (.bool true) ∧ Below w.heap.size w w' := by
  have HR := hid w0
  have g0 : (l0 : Int) ≤ 9223372036854775807 := by have := w0.le; omega
  have HL0 := hid w0.le
  clear w0
  go_enter Try.func5, Try.ntmps5
  go_upto_block 0 with fail
  go_cut [5, 6] (fun s5 s6 wx => ∃ R, BkI w wx s5 s6 R ∧ R.length ≤ 20)
  case first =>
    as_aux_lemma =>
      go_wp2_with fail
      go_loopw [5, 6, 7] (fun vb vw i wr => ∃ (t : Nat) (R : List (List Nat)), t ≤ l0 ∧ t ≤ 20 ∧ i = .int .i64 (t : Nat) ∧ BkI w wr vb vw R ∧ R.length ≤ t) (fun _ _ i _ => l0 - (intOf i).toNat)
      case atStart => exact ⟨0, [], Nat.zero_le _, Nat.zero_le _, rfl, ⟨OwnB.nil _ _, OwnV.nil _ _ _, fun y hy => (by cases hy), Up.refl _ _⟩, Nat.le_refl _⟩
      case round =>
        obtain ⟨t, R, ht, ht2, rfl, hi, hrl⟩ := hrel
        have HI := hid hi
        have HRL := hid hrl
        have i0 : (0 : Int) ≤ (t : Int) := by omega
        have i9 : (t : Int) ≤ 20 := by omega
        by_cases hlt : t < l0
        · have i1 : (t : Int) < (l0 : Int) := by omega
          by_cases h20 : t < 20
          · have i2 : (t : Int) < 20 := by omega
            obtain ⟨g, o, z, ea, ec, rfl, hzj, hsl, hec, hcell⟩ := HR.out.at hlt
            have x1 := hcell _ HI.out.up
            have HCE := hid hcell
            have HSL := hid hsl
            have HT := hid (And.intro hlt h20)
            obtain ⟨zl, ZL⟩ : ∃ zl, Hid (z.length = zl) := ⟨_, rfl⟩
            rw [ZL.out] at x1 HSL HCE
            clear hzj hsl hec hcell ht ht2 hlt h20 hrl
            by_cases hlo : zl < 1
            · have k1 : (zl : Int) < 1 := by omega
              clear hlo hi
              go_wp2_with fail
              go_roundw
              case rel => exact ⟨t + 1, R, HT.out.1, HT.out.2, by go_num, HI.out, by have := HRL.out; omega⟩
              case measure => have := HT.out; simp [intOf]; omega
            · have k1 : ¬ (zl : Int) < 1 := by omega
              by_cases hhi : 250 < zl
              · have k2 : (250 : Int) < (zl : Int) := by omega
                clear hlo hhi hi
                go_wp2_with fail
                go_roundw
                case rel => exact ⟨t + 1, R, HT.out.1, HT.out.2, by go_num, HI.out, by have := HRL.out; omega⟩
                case measure => have := HT.out; simp [intOf]; omega
              · have k2 : ¬ (250 : Int) < (zl : Int) := by omega
                have HREC : Hid (RecB z) := ⟨by unfold Rec; rw [ZL.out]; omega, HSL.out.byt⟩
                have hm := wrap_u8 zl zl (by omega)
                obtain ⟨va, vc, rfl, hvc⟩ := hi.b.sln2
                have hne : zl = 0 ∨ ∀ x, ea = some x → ¬ (Value.slice va (flt R).length vc).ownBlock = some x.block := .inr fun x ex e1 => by
                  have h1 := HI.out.b.base _ e1
                  have h2 := HSL.out.lt (by omega) x ex
                  omega
                have HFL := hid (fltR_len HI.out.recs)
                obtain ⟨a5, l5, c5, w5, a6, l6, c6, w6, hr1, hr2, ho6, u5, u6⟩ := app_two hi.b (HSL.out.nxt HI.out.up) (ec := ec) (by have := HFL.out; have := HRL.out; have := HT.out.2; omega) HI.out.up.size hne zl (by omega) 30 30
                have U5 : Up Nul w w5 := HI.out.up.newer u5 fun i hi2 e => by have := HI.out.b.base i e; omega
                have U6 := hid (HI.out.up.newer u6 fun i hi2 e => by have := HI.out.b.base i e; omega)
                have x2 : (wr.alloc (.cells #[.int .u8 (zl : Nat)] 5)).cell? ⟨g, o + t, none⟩ = some (.slice ea zl ec) := HCE.out _ (HI.out.up.alloc _)
                have x3 := HCE.out _ U5
                have x6 := HCE.out _ U6.out
                have HO6 : Hid (OwnB w.heap.size w6 (.slice a6 l6 c6) (flt (R ++ [z]))) := by
                  show OwnB _ _ _ _
                  rw [flt_append, flt_one]
                  unfold enc
                  rw [ZL.out]
                  exact ho6
                have HS6 := hid (hi.s.keep fun g2 hg2 => u6.block g2 (World.ownsRow.lt hi.s g2 hg2).2 fun e => row_far hi.b hi.s g2 e hg2)
                have HFR : Hid (∀ y ∈ R ++ [z], RecB y) := fun y hy => by
                  rcases List.mem_append.1 hy with e | e
                  · exact HI.out.recs y e
                  · rw [List.mem_singleton.1 e]; exact HREC.out
                obtain ⟨fl, FLL⟩ : ∃ fl, Hid ((flt R).length = fl) := ⟨_, rfl⟩
                rw [FLL.out] at hr1 ⊢
                clear ho6 u5 u6 U5 hne hvc hi hlo hhi
                go_wp2_with fail
                go_region_held3 (fun w' => w'.cell? ⟨g, o + t, none⟩ = some (.slice ea zl ec)) (first | exact x1 | exact x2 | exact x3 | exact x6)
                  ((first
                    | (refine step_append_eqv (by rfl) (.tmp 37) (.tmp 44) 30 (by rfl) (.slice va fl vc) (.slice (some ⟨wr.heap.size, 0, none⟩) 1 1) (.slice a5 l5 c5) (by rfl) (by rfl) hr1 ?_)
                    | (refine step_append_eqv (by rfl) (.tmp 45) (.tmp 49) 30 (by rfl) (.slice a5 l5 c5) (.slice ea zl ec) (.slice a6 l6 c6) (by rfl) (by rfl) hr2 ?_)))
                have kc := (HSL.out.nxt U6.out).conv ec
                have HSV : Hid (SrV (R ++ [z]) = SrV R ++ [.string (strOf z)]) := by show _ = _; rw [SrV_append]; rfl
                generalize strOf z = sz at kc HSV
                have hsa := HS6.out.alloc (.cells #[.string sz] 9)
                have HSA := hid hsa
                have HCN : Hid ((w6.alloc (.cells #[.string sz] 9)).cell? ⟨w6.heap.size, 0, none⟩ = some (.string sz)) := World.cell?_alloc_new w6 _ _ 0
                have HLL : Hid ((SrV R).length + 1 ≤ 1000000) := by show _ ≤ _; rw [SrV_length]; have := HRL.out; have := HT.out.2; omega
                have HSZ : Hid (w.heap.size ≤ (w6.alloc (.cells #[.string sz] 9)).heap.size) := (U6.out.alloc _).size
                clear hr1 hr2 hsa
                go_wp2_with (first
                  | (at_builtin; refine wpList_append_one Try.underlying29 info_strT rfl (by omega) rfl (.tmp 51) (.tmp 57) rfl w.heap.size u6 (SrV R) rfl HSA.out ⟨w6.heap.size, 0, none⟩ 1 (.string sz) rfl HCN.out rfl HLL.out HSZ.out ?_
                     intro v7 w7 G1 G2 G3)
                  | fail)
                have HFIN : Hid (BkI w w7 (.slice a6 l6 c6) v7 (R ++ [z])) := by
                  have hb : OwnB w.heap.size (w6.alloc (.cells #[.string sz] 9)) (.slice a6 l6 c6) (flt (R ++ [z])) := HO6.out.alloc _
                  have ug : Up (fun q => some q = u6.ownBlock) (w6.alloc (.cells #[.string sz] 9)) w7 := ⟨G2.out.os, G2.out.tape, G2.out.output, G2.out.size, fun q hq hs => G2.out.block q hq fun e => hs e⟩
                  refine ⟨hb.off ug fun q hq e => row_far hb HSA.out q hq e.symm, by rw [HSV.out]; exact G1.out, HFR.out, (U6.out.alloc _).grown G2.out fun q hq => HSA.out.base q hq⟩
                clear G1 G2 G3
                go_wp2_with fail
                go_roundw
                case rel => exact ⟨t + 1, _, HT.out.1, HT.out.2, by go_num, HFIN.out, by rw [List.length_append]; exact Nat.add_le_add_right HRL.out 1⟩
                case measure => have := HT.out; simp [intOf]; omega
          · have i2 : ¬ (t : Int) < 20 := by omega
            clear hi hrl ht ht2 hlt h20
            go_wp2_with fail
            go_meet
            case rel => exact ⟨_, HI.out, by have := HRL.out; omega⟩
        · obtain rfl : t = l0 := by omega
          clear hi hrl ht ht2 hlt
          go_wp2_with fail
          go_meet
          case rel => exact ⟨_, HI.out, by have := HRL.out; omega⟩
  case rest =>
    obtain ⟨R, hi, hrl⟩ := hcut
    have HI := hid hi
    have HRL := hid hrl
    have HFL := hid (fltR_len hi.recs)
    obtain ⟨ba, bc, rfl, hbc, hbs, _, _⟩ := hi.b.sln (by have := HFL.out; omega)
    obtain ⟨sa, sc, rfl, hsc⟩ := hi.s.shp
    have HBS := hid (And.intro hbs hbc)
    have HRS := hid hi.s.rowS
    have HUP := hid hi.up
    have HREC := hid hi.recs
    have HSM : Hid (∀ y ∈ R, ∀ i, y.getD i 0 < 256) := fun y hy => (hi.recs y hy).2
    have HSF : Hid (spl (flt R) = R) := by
      have := spl_flt (l := R) (fun y hy => (hi.recs y hy).1) []
      rw [List.append_nil, spl_nil, List.append_nil] at this
      exact this
    have HBG := hid fun k => spl_begin (l := R) (fun y hy => (hi.recs y hy).1) k
    have hsc : R.length ≤ sc := by rw [SrV_length] at hsc; exact hsc
    have HSC := hid hsc
    rw [SrV_length] at HRS ⊢
    obtain ⟨fl, FL⟩ : ∃ fl, Hid ((flt R).length = fl) := ⟨_, rfl⟩
    obtain ⟨n, NN⟩ : ∃ n, Hid (R.length = n) := ⟨_, rfl⟩
    have HFF : Hid (fl ≤ 5020 ∧ n ≤ 20) := by
      have := HFL.out
      have := HRL.out
      rw [← FL.out, ← NN.out]
      exact ⟨by omega, by omega⟩
    rw [FL.out] at HBS ⊢
    rw [NN.out] at HRS HSC ⊢
    have HSP := hid (O.split ba fl bc (flt R) HBS.out.1 HBS.out.2 (by have := HFF.out; omega))
    rw [HSF.out, FL.out] at HSP
    clear hi hrl hbc hbs hsc HFL HRL HI
    go_wp2_with fail
    refine HSP.out.mono ?_
    rintro e w2 ⟨v2, rfl, hr2, u2⟩
    have HST := hid (strings_all hr2 (by rw [NN.out]; have := HFF.out; omega))
    obtain ⟨ra, rc, rfl, _⟩ := id hr2
    rw [NN.out] at HST ⊢
    have U2 := hid u2
    clear hr2 u2 HSP
    go_wp2_with fail
    refine HST.out.mono ?_
    rintro e w3 ⟨v3, rfl, ho3, u3⟩
    have U3 := hid (U2.out.trans u3)
    have HSA := hid (same_all ho3.rowS (HRS.out.nxt U3.out) (by rw [NN.out]; have := HFF.out; omega) HSM.out HSM.out)
    rw [decide_eq_true rfl] at HSA
    obtain ⟨ta, tc, rfl⟩ := ho3.shape
    clear ho3 u3 HST
    go_wp2_with fail
    refine HSA.out.mono ?_
    rintro e w4 ⟨rfl, u4⟩
    have U4 := hid (U3.out.trans u4)
    clear u4 HSA
    obtain ⟨m, hm, _⟩ := FrL.mask16 a1
    obtain ⟨d, D⟩ : ∃ d : Nat, Hid (fl + 1 = d) := ⟨_, rfl⟩
    have e1 : (fl : Int) + 1 = (d : Int) := by have := D.out; omega
    obtain ⟨k, hk, hkl⟩ := FrL.rem_lit m d (by have := D.out; omega)
    have b1 : ¬ (d : Int) = 0 := by have := D.out; omega
    have HKL : Hid (k ≤ fl) := by have := D.out; show _ ≤ _; omega
    have hsl := run_upto ba fl bc k (by have := HKL.out; have := HBS.out.2; omega)
    have b2 : (fl : Int) ≤ 5020 := by have := HFF.out; omega
    obtain ⟨j, hj1, hj2, hj3, hj4⟩ := HBG.out k
    have HSP := hid (O.split ba k bc ((flt R).take k) ((HBS.out.1.upb HKL.out).nxt U4.out) (by have := HKL.out; have := HBS.out.2; omega) (by have := HKL.out; have := HFF.out; omega))
    rw [hj2] at HSP
    have HJ := hid (And.intro hj1 (And.intro hj3 hj4))
    have HTL : Hid ((R.take j).length = j) := by show _ = _; rw [List.length_take]; omega
    obtain ⟨wh, WH⟩ : ∃ wh, Hid ((flt (R.take j)).length = wh) := ⟨_, rfl⟩
    rw [WH.out] at HSP HJ
    rw [NN.out] at HJ
    have HRT := hid (HRS.out.take j (by rw [NN.out]; exact HJ.out.1))
    have HSMT : Hid (∀ y ∈ R.take j, ∀ i, y.getD i 0 < 256) := fun y hy => HSM.out y (List.mem_of_mem_take hy)
    clear hkl hj1 hj2 hj3 hj4
    go_wp2_with fail
    rw [hk]
    refine HSP.out.mono ?_
    rintro e w5 ⟨v5, rfl, hr5, u5⟩
    have HR5 := hid hr5
    have U5 := hid (U4.out.trans u5)
    obtain ⟨ma, mc, rfl, _⟩ := id hr5
    rw [HTL.out]
    have HST2 : Hid (∀ W, Up Nul w5 W → Calls Try.prog 20 #[.slice ma j mc] W fun e w' => ∃ qa qc, e = .returned (.slice qa j qc) ∧ Up Nul w5 w' ∧ RowS w' (.slice qa j qc) (R.take j)) := fun W u => by
      have h1 := strings_all (HR5.out.nxt u) (by rw [HTL.out]; have := HJ.out.1; have := HFF.out; omega)
      rw [HTL.out] at h1
      refine h1.mono ?_
      rintro e w' ⟨v', rfl, ho, u2⟩
      obtain ⟨qa, qc, e1⟩ := ho.shape
      have e2 : (SrV (R.take j)).length = j := by rw [SrV_length]; exact HTL.out
      rw [e2] at e1
      subst e1
      exact ⟨qa, qc, rfl, u.trans u2, ho.rowS⟩
    have HSA2 : Hid (∀ W qa qc, Up Nul w5 W → RowS W (.slice qa j qc) (R.take j) → Calls Try.prog 19 #[.slice qa j qc, .slice sa j sc] W fun e w' => e = .returned (.bool true) ∧ Up Nul w5 w') := fun W qa qc u hq => by
      have h1 := same_all hq (HRT.out.nxt (U5.out.trans u)) (by rw [HTL.out]; have := HJ.out.1; have := HFF.out; omega) HSMT.out HSMT.out
      rw [decide_eq_true rfl] at h1
      exact h1.mono fun e w' h => ⟨h.1, u.trans h.2⟩
    have hup := strs_upto sa n sc j (by have := HJ.out.1; have := HSC.out; omega)
    have k1 : ¬ n < j := by have := HJ.out.1; omega
    have k2 : ¬ k < wh := by have := HJ.out.2.1; omega
    clear hr5 u5 HSP hm hk b1 e1
    go_wp2_with fail
    go_region_held3 (fun W => Up Nul w5 W) (first | assumption | exact (Up.refl _ _).drew | exact Up.refl _ _) ((first
      | (go_at_call 20; (with_reducible refine (HST2.out _ (by first | exact (Up.refl _ _).drew | exact Up.refl _ _ | assumption)).mono ?_); rintro e wa ⟨qa, qc, rfl, ua, hq⟩)
      | (go_at_call 19; (with_reducible refine (HSA2.out _ _ _ (by assumption) (by assumption)).mono ?_); rintro e wb ⟨rfl, ub⟩)))
    all_goals
      have UB := hid (U5.out.trans ub)
      clear ub
      by_cases hjn : j = n
      · subst hjn
        have k3 : ((j : Int) == (j : Int)) = true := by simp
        go_wp2_with fail
        refine (qawake_any O _).mono ?_
        rintro e w9 ⟨rfl, ka⟩
        have KA := hid (HUP.out.trans (UB.out.trans ka))
        clear ka
        go_wp2_with fail
        go_ret
        exact ⟨rfl, KA.out.below (Nat.le_refl _) fun _ _ h => h⟩
      · have hjl : j < R.length := by rw [NN.out]; have := HJ.out.1; omega
        have hz : R[j]? = some R[j] := List.getElem?_eq_getElem hjl
        have hkz := HJ.out.2.2 _ hz
        obtain ⟨a', c', e', hrow⟩ := HRS.out
        rw [NN.out] at e' hrow
        injection e' with e1' e2' e3'
        subst e1'
        obtain ⟨g, o, rfl, hg, hcell⟩ := hrow.resolve_left (by omega)
        have y1 := ((UB.out).cell (p := ⟨g, o + j, none⟩) hg id).trans (hcell j _ hz)
        have hsz : (strOf R[j]).size = R[j].length := strOf_size _
        generalize R[j].length = zl at hsz hkz
        generalize strOf R[j] = sz at hsz y1
        have k3 : ((j : Int) == (n : Int)) = false := by simp; omega
        have k4 : wrap64 ((k : Int) - (wh : Int)) = (k : Int) - (wh : Int) := by
          rw [← IntWalk.i64_left]
          exact IntWalk.i64_in _ (by have := HKL.out; have := HFF.out; have := HJ.out.2.1; omega)
        have k5 : (k : Int) - (wh : Int) ≤ (zl : Int) := by omega
        have k6 : (j : Int) < (n : Int) := by have := HJ.out.1; omega
        have k7 : (0 : Int) ≤ (j : Int) := by omega
        clear hjn hjl hz hkz hrow hg hcell e2' e3'
        go_wp2_with fail
        refine (qawake_any O _).mono ?_
        rintro e w9 ⟨rfl, ka⟩
        have KA := hid (HUP.out.trans (UB.out.trans ka))
        clear ka
        go_wp2_with fail
        go_ret
        exact ⟨rfl, KA.out.below (Nat.le_refl _) fun _ _ h => h⟩
theorem sback_walk (O : TrioOps) (a0 : Option Addr) (l0 c0 : Nat) (a1 : Int) (w : World) (w0 : CamS w a0 l0 c0) :
    Calls Try.prog 5 #[.slice a0 l0 c0, .int .i64 a1] w fun e w' => e = .returned (.bool true) ∧ Below w.heap.size w w' := by
  obtain ⟨L0, r0⟩ := w0.rin
  exact sback_in O a0 l0 c0 L0 a1 w r0
end Go.Proofs.Ytencinajieicpaa
