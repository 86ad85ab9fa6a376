/- Stage 12's law 'SplitTells', walked over any program's Trio. -/
import Derived.Test.YtencinajieicpaaTrTwoApp
import Derived.Deep.RegionHeld3
import Derived.Test.YtencinajieicpaaTrRSplit
import Derived.Test.YtencinajieicpaaTrWide
namespace Go.Proofs.Ytencinajieicpaa
open Go.RowKit
set_option linter.unusedVariables false

theorem SlN.upn {w : World} {a : Option Addr} {n : Nat} {z : List Nat} (h : SlN w a n z) {k : Nat} (hk : k ≤ n) : SlN w a k (z.take k) := by
  refine ⟨by rw [List.length_take, h.len]; omega, ?_, by have := h.le; omega⟩
  rcases h.row with e | ⟨b, o, e, hb, r⟩
  · exact .inl (by omega)
  · refine .inr ⟨b, o, e, hb, fun i hi => ?_, fun i => ?_⟩
    · rw [List.length_take] at hi
      rw [r.cells i (by rw [h.len]; omega)]
      simp [List.getD_eq_getElem?_getD, show i < k by omega]
    · have := r.small i
      simp only [List.getD_eq_getElem?_getD, List.getElem?_take] at this ⊢
      split
      · exact this
      · simp
theorem flt_many0 (R : List (List Nat)) : R.length ≤ (flt R).length := by
  induction R with
  | nil => exact Nat.le_refl _
  | cons z R ih => rw [flt_cons, List.length_append, enc_length, List.length_cons]; omega
theorem spl_many (b : List Nat) : (spl b).length ≤ b.length := by
  obtain ⟨t, h⟩ := flt_spl b
  have h1 := congrArg List.length h
  have h2 := flt_many0 (spl b)
  rw [List.length_append] at h1
  omega
theorem spl_small {b : List Nat} (hb : ∀ i, b.getD i 0 < 256) : ∀ y ∈ spl b, ∀ i, y.getD i 0 < 256 := by
  have h0 : ∀ x ∈ b, x < 256 := fun x hx => by
    obtain ⟨i, hi, rfl⟩ := List.mem_iff_getElem.1 hx
    have := hb i
    rwa [List.getD_eq_getElem?_getD, List.getElem?_eq_getElem hi] at this
  obtain ⟨t, ht⟩ := flt_spl b
  intro y hy i
  rw [List.getD_eq_getElem?_getD]
  cases hx : y[i]? with
  | none => simp
  | some x =>
    have hxy := List.mem_of_getElem? hx
    refine h0 x ?_
    rw [ht]
    refine List.mem_append_left _ ?_
    unfold flt
    exact List.mem_flatten.2 ⟨enc y, List.mem_map.2 ⟨y, hy, rfl⟩, List.mem_cons_of_mem _ hxy⟩
/-- What a round knows of the bytes that both split. -/
structure SpT (O : TrioOps) (w : World) (a : Option Addr) (l c : Nat) (z : List Nat) : Prop where
  sl : SlN w a l z
  cap : l ≤ c
  le : l ≤ 100000
set_option maxRecDepth 100000 in
set_option maxHeartbeats 12800000 in
theorem stells_in (O : TrioOps) (a0 : Option Addr) (l0 c0 : Nat) (z0 : List Nat) (a1 : Option Addr) (l1 c1 : Nat) (L1 : List (List Nat)) (a2 : Int) (w : World) (w0 : SlN w a0 l0 z0) (w0c : l0 ≤ c0) (w1 : RIn w a1 l1 L1) :
    Calls Try.prog 6 #[.slice a0 l0 c0, .slice a1 l1 c1, .int .i64 a2] w fun e w' => e = .returned (.bool true) ∧ Below w.heap.size w w' := by
  have HZ := hid w0
  have HZC := hid w0c
  have HR := hid w1
  have g0 : (l0 : Int) ≤ 9223372036854775807 := by have := w0.le; omega
  have g1 : (l1 : Int) ≤ 9223372036854775807 := by have := w1.le; omega
  clear w0 w0c w1
  by_cases hlong : 1000 < l0 ∨ 20 < l1
  · rcases hlong with h | h
    · have k1 : (1000 : Int) < (l0 : Int) := by omega
      clear h
      go_enter Try.func6, Try.ntmps6
      go_wp2_with fail
      refine (qawake_any O _).mono ?_
      rintro e w9 ⟨rfl, ka⟩
      have KA := hid ka
      clear ka
      go_wp2_with fail
      go_ret
      exact ⟨rfl, KA.out.below (Nat.le_refl _) fun _ _ h => h⟩
    · by_cases h2 : 1000 < l0
      · have k1 : (1000 : Int) < (l0 : Int) := by omega
        clear h h2
        go_enter Try.func6, Try.ntmps6
        go_wp2_with fail
        refine (qawake_any O _).mono ?_
        rintro e w9 ⟨rfl, ka⟩
        have KA := hid ka
        clear ka
        go_wp2_with fail
        go_ret
        exact ⟨rfl, KA.out.below (Nat.le_refl _) fun _ _ h => h⟩
      · have k1 : ¬ (1000 : Int) < (l0 : Int) := by omega
        have k2 : (20 : Int) < (l1 : Int) := by omega
        clear h h2
        go_enter Try.func6, Try.ntmps6
        go_wp2_with fail
        refine (qawake_any O _).mono ?_
        rintro e w9 ⟨rfl, ka⟩
        have KA := hid ka
        clear ka
        go_wp2_with fail
        go_ret
        exact ⟨rfl, KA.out.below (Nat.le_refl _) fun _ _ h => h⟩
  have k1 : ¬ (1000 : Int) < (l0 : Int) := by omega
  have k2 : ¬ (20 : Int) < (l1 : Int) := by omega
  have HLN : Hid (l0 ≤ 1000 ∧ l1 ≤ 20) := ⟨by omega, by omega⟩
  clear hlong
  go_enter Try.func6, Try.ntmps6
  go_upto_block 0 with fail
  go_cut [7] (fun s7 wx => ∃ C, OwnB w.heap.size wx s7 C ∧ C.length ≤ 301 * l1 ∧ Up Nul w wx)
  case first =>
    as_aux_lemma =>
      go_wp2_with fail
      go_loopw [7, 8] (fun v i wr => ∃ (t : Nat) (C : List Nat), t ≤ l1 ∧ i = .int .i64 (t : Nat) ∧ OwnB w.heap.size wr v C ∧ C.length ≤ 301 * t ∧ Up Nul w wr) (fun _ i _ => l1 - (intOf i).toNat)
      case atStart => exact ⟨0, [], Nat.zero_le _, rfl, OwnB.nil _ _, Nat.zero_le _, Up.refl _ _⟩
      case round =>
        obtain ⟨t, C, ht, rfl, ho, hcl, hu⟩ := hrel
        have HO := hid ho
        have HU := hid hu
        have HCL := hid hcl
        have i0 : (0 : Int) ≤ (t : Int) := by omega
        have i9 : (t : Int) ≤ 20 := by have := HLN.out; omega
        by_cases hlt : t < l1
        · have i2 : (t : Int) < (l1 : Int) := by omega
          obtain ⟨g, o, z, ea, ec, rfl, hzj, hsl, hec, hcell⟩ := HR.out.at hlt
          have x1 := hcell _ HU.out
          have HCE := hid hcell
          have HSL := hid hsl
          have HT := hid hlt
          obtain ⟨zl, ZL⟩ : ∃ zl, Hid (z.length = zl) := ⟨_, rfl⟩
          rw [ZL.out] at x1 HSL HCE
          clear hzj hsl hec hcell ht hlt hcl hu
          by_cases h300 : 300 < zl
          · have k3 : (300 : Int) < (zl : Int) := by omega
            clear h300 ho
            go_wp2_with fail
            refine (qawake_any O _).mono ?_
            rintro e w9 ⟨rfl, ka⟩
            have KA := hid (HU.out.trans ka)
            clear ka
            go_wp2_with fail
            go_ret
            exact ⟨rfl, KA.out.below (Nat.le_refl _) fun _ _ h => h⟩
          · have k3 : ¬ (300 : Int) < (zl : Int) := by omega
            obtain ⟨m, hm, hml⟩ := FrL.rem_lit zl 256 (by omega)
            have hm : IntKind.u8.wrap (zl : Int) = (m : Int) := wrap_u8 zl m hm
            obtain ⟨va, vc, rfl, hvc⟩ := ho.sln2
            obtain ⟨cl, CLL⟩ : ∃ cl, Hid (C.length = cl) := ⟨_, rfl⟩
            have hne : zl = 0 ∨ ∀ x, ea = some x → ¬ (Value.slice va C.length vc).ownBlock = some x.block := by
              by_cases e0 : zl = 0
              · exact .inl e0
              · refine .inr fun x ex e1 => ?_
                have h1 := HO.out.base _ e1
                have h2 := HSL.out.lt e0 x ex
                omega
            obtain ⟨a5, l5, c5, w5, a6, l6, c6, w6, hr1, hr2, ho6, u5, u6⟩ := app_two ho (HSL.out.nxt HU.out) (ec := ec) (by have := HCL.out; have := HT.out; have := HLN.out; omega) HU.out.size hne m hml 30 30
            have U5 : Up Nul w w5 := HU.out.newer u5 fun i hi e => by have := HO.out.base i e; omega
            have U6 := hid (HU.out.newer u6 fun i hi e => by have := HO.out.base i e; omega)
            have x2 : (wr.alloc (.cells #[.int .u8 (m : Nat)] 5)).cell? ⟨g, o + t, none⟩ = some (.slice ea zl ec) := HCE.out _ (HU.out.alloc _)
            have x3 := HCE.out _ U5
            have x6 := HCE.out _ U6.out
            have HO6 := hid ho6
            have HC6 : Hid ((C ++ m :: z).length ≤ 301 * (t + 1)) := by
              show _ ≤ _
              rw [List.length_append, List.length_cons, ZL.out]
              have := HCL.out
              omega
            rw [CLL.out] at hr1 ⊢
            clear ho6 u5 u6 U5 hne hvc h300 ho hml
            go_wp2_with fail
            go_region_held3 (fun w' => w'.cell? ⟨g, o + t, none⟩ = some (.slice ea zl ec)) (first | exact x1 | exact x2 | exact x3 | exact x6)
              ((first
                | (refine step_append_eqv (by rfl) (.tmp 37) (.tmp 44) 30 (by rfl) (.slice va cl vc) (.slice (some ⟨wr.heap.size, 0, none⟩) 1 1) (.slice a5 l5 c5) (by rfl) (by rfl) hr1 ?_)
                | (refine step_append_eqv (by rfl) (.tmp 45) (.tmp 49) 30 (by rfl) (.slice a5 l5 c5) (.slice ea zl ec) (.slice a6 l6 c6) (by rfl) (by rfl) hr2 ?_)))
            all_goals
              clear hr1 hr2
              go_wp2_with fail
              go_roundw
              case rel => exact ⟨t + 1, _, HT.out, by go_num, HO6.out, HC6.out, U6.out⟩
              case measure => have := HT.out; simp [intOf]; omega
        · obtain rfl : t = l1 := by omega
          clear ho hcl hu ht hlt
          go_wp2_with fail
          go_meet
          case rel => exact ⟨_, HO.out, HCL.out, HU.out⟩
  case rest =>
    obtain ⟨C, ho, hcl, hu⟩ := hcut
    obtain ⟨ca, cc, rfl, hcc, hcs, _, _⟩ := ho.sln (by have := HLN.out; omega)
    have HCS := hid (And.intro hcs (And.intro hcc (And.intro hcl hu)))
    obtain ⟨cl, CL⟩ : ∃ cl, Hid (C.length = cl) := ⟨_, rfl⟩
    rw [CL.out] at HCS ⊢
    clear ho hcl hu hcs hcc
    obtain ⟨m, hm, _⟩ := FrL.mask16 a2
    obtain ⟨d, D⟩ : ∃ d : Nat, Hid (cl + 1 = d) := ⟨_, rfl⟩
    have e1 : (cl : Int) + 1 = (d : Int) := by have := D.out; omega
    obtain ⟨n, hn, hnl⟩ := FrL.rem_lit m d (by have := D.out; omega)
    have b1 : ¬ (d : Int) = 0 := by have := D.out; omega
    have HNL : Hid (n ≤ cl) := by have := D.out; show _ ≤ _; omega
    have hsl := run_upto ca cl cc n (by have := HNL.out; have := HCS.out.2.1; omega)
    have b2 : (cl : Int) ≤ 100000 := by have := HCS.out.2.2.1; have := HLN.out; omega
    have HB2 := hid b2
    clear hnl
    go_wp2_with fail
    go_loopw [9] (fun i wr => ∃ t : Nat, t ≤ 2 ∧ i = .int .i64 (t : Nat) ∧ Up Nul wc wr) (fun i _ => 2 - (intOf i).toNat)
    case atStart => exact ⟨0, Nat.zero_le _, rfl, Up.refl _ _⟩
    case round =>
      obtain ⟨t, ht, rfl, hu⟩ := hrel
      have HU := hid hu
      clear hu
      obtain rfl | rfl | rfl : t = 0 ∨ t = 1 ∨ t = 2 := by omega
      focus
        have i1 : (0 : Int) < 2 := by omega
        have HSX : Hid (SlN wc a0 l0 z0 ∧ l0 ≤ c0 ∧ l0 ≤ 100000) := ⟨HZ.out.nxt HCS.out.2.2.2, HZC.out, by have := HLN.out; omega⟩
        have HLS : Hid ((spl z0).length ≤ 100000) := by have := spl_many z0; have := HSX.out.1.len; have := HSX.out.2.2; show _ ≤ _; omega
        have HSM := hid (spl_small HSX.out.1.byt)
        have HRS := hid fun W => rsplit_any W z0 HSX.out.1.byt (by rw [HSX.out.1.len]; exact HSX.out.2.2)
        clear ht
        go_wp2_with fail
        have UA := hid (HU.out.trans ((Up.refl Nul wr).alloc (.cells #[.slice a0 l0 c0, .slice ca n cc] 30)))
        have HSP := hid (O.split a0 l0 c0 z0 (HSX.out.1.nxt UA.out) HSX.out.2.1 HSX.out.2.2)
        generalize World.alloc wr _ = w2 at UA HSP ⊢
        refine HSP.out.mono ?_
        rintro e w3 ⟨v3, rfl, hr3, u3⟩
        obtain ⟨ra, rc, rfl, _⟩ := id hr3
        have HR3 := hid hr3
        have U3 := hid (UA.out.trans u3)
        have kc := (HSX.out.1.nxt U3.out).conv c0
        have HR0 := hid (HRS.out w3)
        clear hr3 u3 HSP UA
        generalize strOf z0 = s at kc HR0
        go_wp2_with fail
        refine HR0.out.mono ?_
        rintro e w4 ⟨v4, rfl, ho4, u4⟩
        have U4 := hid (U3.out.trans u4)
        have HST := hid (strings_wide (HR3.out.nxt u4) HLS.out)
        have HRO := hid ho4.rowS
        obtain ⟨sa, sc, rfl⟩ := ho4.shape
        clear u4 ho4 kc HR0
        have nn : (((flt (spl z0)).length : Nat) : Int) = ((flt (spl z0)).length : Nat) := rfl
        generalize (flt (spl z0)).length = fl
        go_wp2_with fail
        refine HST.out.mono ?_
        rintro e w5 ⟨v5, rfl, ho5, u5⟩
        have U5 := hid (U4.out.trans u5)
        have HSA := hid (same_wide ho5.rowS (HRO.out.nxt u5) ⟨HLS.out, HLS.out⟩ HSM.out HSM.out)
        rw [decide_eq_true rfl] at HSA
        obtain ⟨ta, tc, rfl⟩ := ho5.shape
        clear u5 ho5 HST
        go_wp2_with fail
        refine HSA.out.mono ?_
        rintro e w6 ⟨rfl, u6⟩
        have U6 := hid (U5.out.trans u6)
        clear u6 HSA
        go_wp2_with fail
        go_roundw
        case rel => exact ⟨0 + 1, by omega, by go_num, U6.out⟩
        case measure => simp [intOf]
      focus
        have i1 : (1 : Int) < 2 := by omega
        have HSX : Hid (SlN wc ca n (C.take n) ∧ n ≤ cc ∧ n ≤ 100000) := ⟨HCS.out.1.upn HNL.out, by have := HNL.out; have := HCS.out.2.1; omega, by have := HNL.out; have := HB2.out; omega⟩
        have HLS : Hid ((spl (C.take n)).length ≤ 100000) := by have := spl_many (C.take n); have := HSX.out.1.len; have := HSX.out.2.2; show _ ≤ _; omega
        have HSM := hid (spl_small HSX.out.1.byt)
        have HRS := hid fun W => rsplit_any W (C.take n) HSX.out.1.byt (by rw [HSX.out.1.len]; exact HSX.out.2.2)
        clear ht
        go_wp2_with fail
        have UA := hid (HU.out.trans ((Up.refl Nul wr).alloc (.cells #[.slice a0 l0 c0, .slice ca n cc] 30)))
        have HSP := hid (O.split ca n cc (C.take n) (HSX.out.1.nxt UA.out) HSX.out.2.1 HSX.out.2.2)
        generalize World.alloc wr _ = w2 at UA HSP ⊢
        refine HSP.out.mono ?_
        rintro e w3 ⟨v3, rfl, hr3, u3⟩
        obtain ⟨ra, rc, rfl, _⟩ := id hr3
        have HR3 := hid hr3
        have U3 := hid (UA.out.trans u3)
        have kc := (HSX.out.1.nxt U3.out).conv cc
        have HR0 := hid (HRS.out w3)
        clear hr3 u3 HSP UA
        generalize strOf (C.take n) = s at kc HR0
        go_wp2_with fail
        refine HR0.out.mono ?_
        rintro e w4 ⟨v4, rfl, ho4, u4⟩
        have U4 := hid (U3.out.trans u4)
        have HST := hid (strings_wide (HR3.out.nxt u4) HLS.out)
        have HRO := hid ho4.rowS
        obtain ⟨sa, sc, rfl⟩ := ho4.shape
        clear u4 ho4 kc HR0
        have nn : (((flt (spl (C.take n))).length : Nat) : Int) = ((flt (spl (C.take n))).length : Nat) := rfl
        generalize (flt (spl (C.take n))).length = fl
        go_wp2_with fail
        refine HST.out.mono ?_
        rintro e w5 ⟨v5, rfl, ho5, u5⟩
        have U5 := hid (U4.out.trans u5)
        have HSA := hid (same_wide ho5.rowS (HRO.out.nxt u5) ⟨HLS.out, HLS.out⟩ HSM.out HSM.out)
        rw [decide_eq_true rfl] at HSA
        obtain ⟨ta, tc, rfl⟩ := ho5.shape
        clear u5 ho5 HST
        go_wp2_with fail
        refine HSA.out.mono ?_
        rintro e w6 ⟨rfl, u6⟩
        have U6 := hid (U5.out.trans u6)
        clear u6 HSA
        go_wp2_with fail
        go_roundw
        case rel => exact ⟨1 + 1, by omega, by go_num, U6.out⟩
        case measure => simp [intOf]
      focus
        clear ht
        go_wp2_with fail
        refine (qawake_any O _).mono ?_
        rintro e w9 ⟨rfl, ka⟩
        have KA := hid (HCS.out.2.2.2.trans (HU.out.trans ka))
        clear ka
        go_wp2_with fail
        go_ret
        exact ⟨rfl, KA.out.below (Nat.le_refl _) fun _ _ h => h⟩
theorem stells_walk (O : TrioOps) (a0 : Option Addr) (l0 c0 : Nat) (z0 : List Int) (a1 : Option Addr) (l1 c1 : Nat) (a2 : Int) (w : World) (w0 : CameIn w a0 l0 c0 z0) (w1 : CamS w a1 l1 c1) :
    Calls Try.prog 6 #[.slice a0 l0 c0, .slice a1 l1 c1, .int .i64 a2] w fun e w' => e = .returned (.bool true) ∧ Below w.heap.size w w' := by
  obtain ⟨z, hz⟩ := SlN.of w0
  obtain ⟨L1, r1⟩ := w1.rin
  exact stells_in O a0 l0 c0 z a1 l1 c1 L1 a2 w hz (came_cap w0) r1
end Go.Proofs.Ytencinajieicpaa
