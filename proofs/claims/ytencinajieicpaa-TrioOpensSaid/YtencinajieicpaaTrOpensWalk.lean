/- The law TrioOpens, walked, whatever the program's Trio is. -/
import Derived.Test.YtencinajieicpaaTrKeepsWalk
import Derived.Test.YtencinajieicpaaTrTwoWalk
namespace Go.Proofs.Ytencinajieicpaa
open Go.RowKit
set_option linter.unusedVariables false

theorem info_byte : (Try.prog.info? 5).map (fun i => (i.zero, i.size, i.bytes)) = some (some (.int .u8 0), 1, 1) := by kernel_rfl
def byV (z : List Nat) : List Value := z.map fun n => .int .u8 (n : Nat)
theorem byV_length (z : List Nat) : (byV z).length = z.length := by simp [byV]
theorem byV_get {z : List Nat} {i : Nat} (h : i < z.length) : (byV z)[i]? = some (.int .u8 (z.getD i 0 : Nat)) := by
  simp [byV, h, List.getD_eq_getElem?_getD]
set_option maxRecDepth 100000 in
/-- append([]byte{n}, z...), run. -/
theorem run_append_head {W : World} {a : Option Addr} {l c n : Nat} {z : List Nat} (hz : SlN W a l z) (hl : l ≤ 1000) (h0 : 0 < l) (hn : n < 256) (ty : TypeId) :
    ∃ g cap W', (Builtin.append_ #[30, 30] ty #[.slice (some ⟨W.heap.size, 0, none⟩) 1 1, .slice a l c]).run Try.prog (W.alloc (.cells #[.int .u8 (n : Nat)] 5)) = .ok (.slice (some ⟨g, 0, none⟩) (l + 1) cap) W' ∧
      l + 1 ≤ cap ∧ W.heap.size ≤ g ∧ SlN W' (some ⟨g, 0, none⟩) (l + 1) (n :: z) ∧ Up Nul W W' := by
  obtain ⟨i0, hi, hz0, hz1, hz2⟩ := info_parts info_byte
  obtain ⟨b, o, rfl, hb, hr⟩ := hz.row.resolve_left (by omega)
  have hzl := hz.len
  have hown : OwnV 5 W.heap.size (W.alloc (.cells #[.int .u8 (n : Nat)] 5)) (.slice (some ⟨W.heap.size, 0, none⟩) 1 1) [.int .u8 (n : Nat)] :=
    ⟨rfl, .inr ⟨W.heap.size, 1, #[.int .u8 (n : Nat)], rfl, Nat.le_refl _, heap_alloc_new _ _, Nat.le_refl _, by unfold maxLen; omega, rfl, rfl⟩⟩
  have hc : ∀ (j : Nat) (u : Value), (byV z)[j]? = some u → (W.alloc (.cells #[.int .u8 (n : Nat)] 5)).cell? ((⟨b, o, none⟩ : Addr).add j) = some u := fun j u hj => by
    rw [add_off]
    have hjl : j < z.length := by have := (List.getElem?_eq_some_iff.1 hj).1; rwa [byV_length] at this
    rw [byV_get hjl] at hj
    injection hj with hj
    rw [← hj]
    exact (((Up.refl Nul W).alloc _).cell (p := ⟨b, o + j, none⟩) hb id).trans (hr.cells j hjl)
  have h1 : ∀ u ∈ byV z, u.oneCell' = true := fun u hu => by
    obtain ⟨m, _, rfl⟩ := List.mem_map.1 hu
    rfl
  obtain ⟨v', w', hrun, g1, g2, _⟩ := run_append_own (P := Try.prog) (W.alloc (.cells #[.int .u8 (n : Nat)] 5)) W.heap.size 30 ty 5 i0 _ 1 1 Try.underlying30 hi hz0 hz1 hz2 rfl (by decide) _ 1 _ hown ⟨b, o, none⟩ l c (byV z) (by rw [byV_length]; omega) hc h1 (by unfold maxLen; omega) (by omega) (by simp)
  have g1 : OwnV 5 W.heap.size w' v' (byV (n :: z)) := by
    show w'.ownsRow W.heap.size _ 1 v' (byV (n :: z)).length (byV (n :: z))
    have e : (byV (n :: z)).length = 1 + l := by rw [byV_length, List.length_cons]; omega
    rw [e]
    exact g1
  obtain ⟨g, cap, e, h2, h3, h4, _, h6⟩ := g1.row (by rw [byV_length]; simp)
  rw [byV_length, List.length_cons] at e h6
  rw [show z.length = l from hzl] at e h6
  subst e
  refine ⟨g, cap, w', hrun, h6, h2, ⟨by simp; exact hzl, .inr ⟨g, 0, rfl, h3, ⟨fun i hi => ?_, fun i => ?_⟩⟩, by omega⟩, ((Up.refl Nul W).alloc _).grown g2 fun k hk => by cases hk; exact Nat.le_refl _⟩
  · rw [Nat.zero_add]
    exact h4 i _ (byV_get hi)
  · cases i with
    | zero => simpa using hn
    | succ i => simpa using hr.small i
theorem SlN.tp {P : Nat → Prop} {w w' : World} {a : Option Addr} {n : Nat} {z : List Nat} (h : SlN w a n z) (u : Tp P w w') (hp : ∀ x, a = some x → P x.block) : SlN w' a n z := by
  refine ⟨h.len, h.row.imp id ?_, h.le⟩
  rintro ⟨b, o, rfl, hb, r⟩
  refine ⟨b, o, rfl, Nat.lt_of_lt_of_le hb u.1, ⟨fun i hi => ?_, r.small⟩⟩
  have := r.cells i hi
  simp only [World.cell?] at this ⊢
  rw [u.2 b (hp _ rfl)]
  exact this
theorem SlN.upto {w : World} {a : Option Addr} {n : Nat} {z : List Nat} (h : SlN w a n z) {k : Nat} (hk : k ≤ n) : SlN w a k (z.take k) := by
  refine ⟨by rw [List.length_take, h.len]; omega, ?_, by have := h.le; omega⟩
  rcases h.row with e | ⟨b, o, e, hb, r⟩
  · exact .inl (by omega)
  · refine .inr ⟨b, o, e, hb, fun i hi => ?_, fun i => ?_⟩
    · rw [List.length_take] at hi
      rw [r.cells i (by omega)]
      congr 2
      simp [List.getD_eq_getElem?_getD, show i < k by omega]
    · by_cases hi : i < k
      · have := r.small i
        simpa [List.getD_eq_getElem?_getD, hi] using this
      · simp [List.getD_eq_getElem?_getD, List.getElem?_take, hi]
/-- On how many of the first Tapes it is whole. -/
def wck (R : List (List Nat)) (z : List Nat) (S : Nat → TS) : Nat → Nat
  | 0 => 0
  | k + 1 => wck R z S k + one (whl R z (S k))
theorem wck_same {R : List (List Nat)} {z : List Nat} {S S' : Nat → TS} : ∀ {k : Nat}, (∀ i, i < k → S' i = S i) → wck R z S' k = wck R z S k
  | 0, _ => rfl
  | k + 1, h => by
    unfold wck
    rw [wck_same fun i hi => h i (by omega), h k (by omega)]
/-- The first kk Tapes have a part of z. -/
structure LyO (R : List (List Nat)) (z : List Nat) (S : Nat → TS) (kk cnt : Nat) : Prop where
  part : ∀ i, i < kk → Prt R z (S i) ∧ (S i).loose = 0
  rest : ∀ i, kk ≤ i → i < 3 → S i = ⟨flt R, 0, true⟩
  cnt : cnt = wck R z S kk
theorem LyO.next {R : List (List Nat)} {z : List Nat} {S S' : Nat → TS} {kk cnt n : Nat} (h : LyO R z S kk cnt) (hn : n ≤ (enc z).length) (h1 : ∀ i, i ≠ kk → S' i = S i) (h2 : S' kk = ⟨flt R ++ (enc z).take n, 0, true⟩) : LyO R z S' (kk + 1) (cnt + one (decide (n = (enc z).length))) := by
  refine ⟨fun i hi => ?_, fun i hi h3 => ?_, ?_⟩
  · by_cases e : i = kk
    · rw [e, h2]
      exact ⟨⟨rfl, n, hn, rfl, Nat.zero_le _⟩, rfl⟩
    · rw [h1 i e]
      exact h.part i (by omega)
  · rw [h1 i (by omega)]
    exact h.rest i (by omega) h3
  · unfold wck
    rw [wck_same fun i hi => h1 i (by omega), ← h.cnt, whl_take (j := n) hn (by rw [h2])]
theorem LyO.inv {R : List (List Nat)} {z : List Nat} {S : Nat → TS} {cnt : Nat} (h : LyO R z S 3 cnt) : InvO R z (if 2 ≤ cnt then R ++ [z] else R) S := by
  have hc : cnt = wc R z S := by
    rw [h.cnt]
    unfold wc wck wck wck wck
    omega
  refine ⟨fun i hi => (h.part i hi).1, fun i hi => (h.part i hi).2, ?_⟩
  by_cases e : 2 ≤ cnt
  · rw [if_pos e]
    exact .inl ⟨rfl, by omega⟩
  · rw [if_neg e]
    exact .inr ⟨rfl, by omega⟩
set_option maxRecDepth 100000 in
set_option maxHeartbeats 12800000 in
theorem topens_in (O : TrioOps) (a0 : Option Addr) (l0 c0 : Nat) (L0 : List (List Nat)) (a1 : Option Addr) (l1 c1 : Nat) (z1 : List Nat) (X : Nat → Int) (a3 : Option Addr) (l3 c3 : Nat) (f3 : Nat → Int) (Y : Nat → Int) (w : World)
    (w0 : RIn w a0 l0 L0) (w1 : SlN w a1 l1 z1) (w1c : l1 ≤ c1) (w3 : SlI w a3 l3 f3) :
    Calls Try.prog 9 #[.slice a0 l0 c0, .slice a1 l1 c1, .agg #[.int .i64 (X 0), .int .i64 (X 1), .int .i64 (X 2)], .slice a3 l3 c3, .agg #[.int .i64 (Y 0), .int .i64 (Y 1), .int .i64 (Y 2)]] w fun e w' => e = .returned (.bool true) ∧ Below w.heap.size w w' := by
  have U0 : Up Nul w (w.alloc (.cells #[.int .i64 (X 0), .int .i64 (X 1), .int .i64 (X 2)] 60)) := (Up.refl Nul w).alloc _
  have U1 : Up Nul (w.alloc (.cells #[.int .i64 (X 0), .int .i64 (X 1), .int .i64 (X 2)] 60)) ((w.alloc (.cells #[.int .i64 (X 0), .int .i64 (X 1), .int .i64 (X 2)] 60)).alloc (.cells #[.int .i64 (Y 0), .int .i64 (Y 1), .int .i64 (Y 2)] 60)) := (Up.refl Nul _).alloc _
  have UB := hid (U0.trans U1)
  have HX := hid ((i3_new w X).nxt U1)
  have HY := hid (i3_new (w.alloc (.cells #[.int .i64 (X 0), .int .i64 (X 1), .int .i64 (X 2)] 60)) Y)
  have HR := hid (w0.nxt UB.out)
  have HB := hid (w1.nxt UB.out)
  have HC := hid w1c
  have H3 := hid (w3.nxt UB.out)
  have HRL := hid w0.le
  have HFL := hid w3.le
  have g0 : (l0 : Int) ≤ 9223372036854775807 := by have := w0.le; omega
  have g3 : (l3 : Int) ≤ 9223372036854775807 := by have := w3.le; omega
  have g1 : (l1 : Int) ≤ 9223372036854775807 := by have := w1.le; omega
  clear w0 w1 w3 w1c U0 U1
  go_enter Try.func9, Try.ntmps9
  go_wp2_with fail
  rw [show w.heap.size + 1 = (w.alloc (.cells #[.int .i64 (X 0), .int .i64 (X 1), .int .i64 (X 2)] 60)).heap.size by simp]
  generalize World.alloc w _ = wa at UB HX HY HR HB H3 ⊢
  generalize hyb : wa.heap.size = yb at HY ⊢
  generalize hwb : World.alloc wa _ = wb at UB HX HY HR HB H3 ⊢
  clear hwb hyb wa
  generalize w.heap.size = xb at HX ⊢
  refine (newFuse_any 0 wb (by omega)).mono ?_
  rintro e w1 ⟨f, rfl, hf, uf, hfn⟩
  have HF : Hid (FzO w1 (some f) none) := hf
  have HFN := hid hfn
  have UF := hid uf
  clear hf uf hfn
  go_wp2_with fail
  refine (qh_new (w0 := wb) (fu := some f) (k := none) O UF.out HF.out (fun g e => by cases e; exact HFN.out)).mono ?_
  rintro e w2 ⟨t, q, rfl, h2, _⟩
  have H2 := hid h2
  clear h2 HF UF
  by_cases hbad : l1 = 0 ∨ 250 < l1
  · have HBAD := hid hbad
    rcases hbad with e | e
    · have k1 : ¬ (250 : Int) < (l1 : Int) := by omega
      have k2 : ((l1 : Int) == 0) = true := by simp [e]
      clear e
      go_wp2_with fail
      refine (qawake_any O _).mono ?_
      rintro e w9 ⟨rfl, ka⟩
      have UE := hid (UB.out.trans (H2.out.up.trans ka))
      clear ka
      go_wp2_with fail
      go_ret
      exact ⟨rfl, UE.out.below (Nat.le_refl _) fun _ _ h => h⟩
    · have k1 : (250 : Int) < (l1 : Int) := by omega
      clear e
      go_wp2_with fail
      refine (qawake_any O _).mono ?_
      rintro e w9 ⟨rfl, ka⟩
      have UE := hid (UB.out.trans (H2.out.up.trans ka))
      clear ka
      go_wp2_with fail
      go_ret
      exact ⟨rfl, UE.out.below (Nat.le_refl _) fun _ _ h => h⟩
  have k1 : ¬ (250 : Int) < (l1 : Int) := by omega
  have k2 : ((l1 : Int) == 0) = false := by simp; omega
  have HZ : Hid (RecB z1) := ⟨by unfold Rec; rw [HB.out.len]; omega, HB.out.smalls⟩
  have HL1 : Hid (0 < l1 ∧ l1 ≤ 250) := ⟨by omega, by omega⟩
  clear hbad
  go_upto_block 0 with fail
  go_cut [12] (fun s12 wx => s12 = .pointer (some ⟨t, 0, none⟩) ∧ ∃ S N, QH O Nul wb wx t q N (some f) none S ∧ (∀ y ∈ L0.take (min l0 10), RecB y) ∧ (∀ i, i < 3 → S i = ⟨flt (L0.take (min l0 10)), 0, true⟩) ∧ N ≤ 10)
  case first =>
    as_aux_lemma =>
      go_wp2_with fail
      go_loopw [13] (fun i wr => ∃ j : Nat, j ≤ 10 ∧ j ≤ l0 ∧ i = .int .i64 (j : Nat) ∧ ∃ S N, QH O Nul wb wr t q N (some f) none S ∧ (∀ y ∈ L0.take j, RecB y) ∧ (∀ i, i < 3 → S i = ⟨flt (L0.take j), 0, true⟩) ∧ N ≤ j) (fun i _ => 10 - (intOf i).toNat)
      case atStart => exact ⟨0, by omega, by omega, rfl, _, _, H2.out, (fun y hy => by rw [List.take_zero] at hy; cases hy), (fun i hi => rfl), Nat.le_refl _⟩
      case round =>
        obtain ⟨j, hj, hjl, rfl, S, N, hq, hrec, hS, hN⟩ := hrel
        have HQ := hid hq
        have HRC := hid hrec
        have HS := hid hS
        have HN := hid hN
        clear hq hrec hS hN H2
        have j0 : (0 : Int) ≤ (j : Int) := by omega
        have HTL : Hid ((L0.take j).length ≤ 10) := by show _ ≤ _; rw [List.length_take]; omega
        by_cases hlj : j < l0
        · have j1 : (j : Int) < (l0 : Int) := by omega
          by_cases h20 : j < 10
          · have j2 : (j : Int) < 10 := by omega
            have HJ := hid (And.intro h20 hlj)
            obtain ⟨g, o, z, ea, ec, rfl, hzj, hsl, hec, hcell⟩ := HR.out.at hlj
            have y0 := hcell _ HQ.out.up
            have HSL := hid hsl
            have HEC := hid hec
            have HCE := hid hcell
            have HZJ := hid hzj
            obtain ⟨zl, ZL⟩ : ∃ zl, Hid (z.length = zl) := ⟨_, rfl⟩
            rw [ZL.out] at y0 HSL HEC HCE
            clear hsl hec hcell hzj hj hjl hlj h20
            by_cases hbad : zl = 0 ∨ 250 < zl
            · rcases hbad with e | e
              · have m1 : ¬ (250 : Int) < (zl : Int) := by omega
                have m2 : ((zl : Int) == 0) = true := by simp [e]
                clear e
                go_wp2_with fail
                refine (qawake_any O _).mono ?_
                rintro e w9 ⟨rfl, ka⟩
                have UE := hid (UB.out.trans (HQ.out.up.trans ka))
                clear ka
                go_wp2_with fail
                go_ret
                exact ⟨rfl, UE.out.below (Nat.le_refl _) fun _ _ h => h⟩
              · have m1 : (250 : Int) < (zl : Int) := by omega
                clear e
                go_wp2_with fail
                refine (qawake_any O _).mono ?_
                rintro e w9 ⟨rfl, ka⟩
                have UE := hid (UB.out.trans (HQ.out.up.trans ka))
                clear ka
                go_wp2_with fail
                go_ret
                exact ⟨rfl, UE.out.below (Nat.le_refl _) fun _ _ h => h⟩
            · have m1 : ¬ (250 : Int) < (zl : Int) := by omega
              have m2 : ((zl : Int) == 0) = false := by simp; omega
              have HZR : Hid (RecB z) := ⟨by unfold Rec; rw [ZL.out]; omega, HSL.out.smalls⟩
              clear hbad
              have hlv : nlv S = 3 := nlv_all fun i hi => by rw [HS.out i hi]
              obtain ⟨S', hap, hS'⟩ := app_none (S := S) HZR.out.1 (by omega) (fun i hi _ => by
                rw [HS.out i hi]
                show (flt _).length + _ ≤ _
                have := flt_le HRC.out
                have := HTL.out
                have := HZR.out.1
                unfold Rec at this
                omega)
              have HAP := hid (qh_appendE HQ.out (by have := HN.out; have := HJ.out; omega) ec (HSL.out.nxt HQ.out.up) HEC.out (by have := HZR.out.1; unfold Rec at this; rw [ZL.out] at this; omega) (by
                rcases HSL.out.row with e | ⟨bb, oo, e, hb, _⟩
                · exact .inl e
                · exact .inr fun y hy => .inr (by rw [e] at hy; cases hy; exact hb)) hap)
              have HS' := hid hS'
              clear hap hS' hlv
              go_wp2_with fail
              refine HAP.out.mono ?_
              rintro e w4 ⟨rfl, h4, _⟩
              have H4 := hid h4
              have HNX : Hid (L0.take (j + 1) = L0.take j ++ [z]) := by
                have hjl : j < L0.length := by rw [HR.out.len]; exact HJ.out.2
                have hz := HZJ.out
                rw [List.getElem?_eq_getElem hjl] at hz
                injection hz with hz
                show _ = _
                rw [List.take_succ_eq_append_getElem hjl, hz]
              clear h4 HAP HQ y0
              go_wp2_with fail
              go_roundw
              case rel => exact ⟨j + 1, HJ.out.1, HJ.out.2, by go_num, _, _, H4.out, (fun y hy => by
                  rw [HNX.out] at hy
                  rcases List.mem_append.1 hy with e | e
                  · exact HRC.out y e
                  · rw [List.mem_singleton.1 e]; exact HZR.out), (fun i hi => by
                  rw [HS'.out i hi, HS.out i hi, HNX.out, flt_append, flt_one]
                  rfl), by have := HN.out; show _ + 1 ≤ _; omega⟩
              case measure => have := HJ.out; simp [intOf]; omega
          · have j2 : ¬ (j : Int) < 10 := by omega
            have hjm : min l0 10 = j := by omega
            have HJM := hid hjm
            clear h20 hj hjl hlj hjm
            go_wp2_with fail
            go_meet
            case rel => exact ⟨rfl, S, N, HQ.out, by rw [HJM.out]; exact HRC.out, by rw [HJM.out]; exact HS.out, by have := HN.out; have := HJM.out; omega⟩
        · have j1 : ¬ (j : Int) < (l0 : Int) := by omega
          have hjm : min l0 10 = j := by omega
          have HJM := hid hjm
          clear hj hjl hlj hjm
          go_wp2_with fail
          go_meet
          case rel => exact ⟨rfl, S, N, HQ.out, by rw [HJM.out]; exact HRC.out, by rw [HJM.out]; exact HS.out, by have := HN.out; have := HJM.out; omega⟩
  case rest =>
    obtain ⟨rfl, S, N, hq, hrec, hS, hN⟩ := hcut
    obtain ⟨R, HRR⟩ : ∃ R, Hid (L0.take (min l0 10) = R) := ⟨_, rfl⟩
    rw [HRR.out] at hrec hS
    have HRn : Hid (R.length = min l0 10) := by
      show _ = _
      rw [← HRR.out, List.length_take, HR.out.len]
      omega
    have HQ := hid hq
    have HRC := hid hrec
    have HLY : Hid (LyO R z1 S 0 0) := ⟨fun i hi => absurd hi (Nat.not_lt_zero i), fun i _ hi => hS i hi, rfl⟩
    have HN := hid hN
    clear hq hrec hS hN H2
    go_wp2_with fail
    refine (qh_tapes HQ.out).mono ?_
    rintro e w3 ⟨rfl, h3, _⟩
    have HQ3 := hid h3
    clear h3 HQ
    unfold tri
    have HL3 := hid (l3_new w3 q)
    have HQ4 : Hid (QH O (fun x => x = w3.heap.size) wb (w3.alloc (.cells #[.pointer (some ⟨q 0, 0, none⟩), .pointer (some ⟨q 1, 0, none⟩), .pointer (some ⟨q 2, 0, none⟩)] 27)) t q N (some f) none S) :=
      HQ3.out.owns ((Up.refl _ _).alloc _) fun x hx => .inr ⟨by omega, by rw [hx]; simp⟩
    clear HQ3
    go_upto_region 13 with fail
    generalize World.alloc w3 _ = w4 at HL3 HQ4 ⊢
    generalize w3.heap.size = lb at HL3 HQ4 ⊢
    have HB4 := hid (HB.out.nxt HQ4.out.up)
    obtain ⟨bg, bc, w5, hap, hbc, hbg, hsb, ub⟩ := run_append_head HB4.out (c := c1) (by have := HL1.out; omega) (by have := HL1.out; omega) (n := l1) (by have := HL1.out; omega) 30
    have lm : (l1 : Int) % 256 = (l1 : Int) := by have := HL1.out; omega
    have HSB : Hid (SlN w5 (some ⟨bg, 0, none⟩) (l1 + 1) (enc z1)) := by
      have : enc z1 = l1 :: z1 := by unfold enc; rw [HB.out.len]
      rw [this]
      exact hsb
    have HBC := hid hbc
    have HQ5 : Hid (QH O (fun x => x = lb ∨ x = bg) wb w5 t q N (some f) none S) := HQ4.out.owns ub fun x hx => hx.imp id fun e => ⟨by omega, by
      rw [e]
      rcases hsb.row with e | ⟨b, o, e, hb, _⟩
      · omega
      · injection e with e
        injection e with e
        rw [e]; exact hb⟩
    have HL5 := hid (HL3.out.nxt ub)
    clear hbc hbg hsb ub HL3 HQ4 HB4
    obtain ⟨bl, BL⟩ : ∃ bl : Nat, Hid (l1 + 1 = bl) := ⟨_, rfl⟩
    rw [BL.out] at hap HSB HBC
    go_wp2_with (first
      | (at_builtin; refine wpList_append_eqv rfl (.tmp 94) (.tmp 95) 30 rfl (.slice (some ⟨w4.heap.size, 0, none⟩) 1 1) (.slice a1 l1 c1) (.slice (some ⟨bg, 0, none⟩) bl bc) rfl rfl hap ?_)
      | fail)
    clear hap lm
    go_loopw [16, 17] (fun wh i wr => ∃ kk cnt : Nat, kk ≤ 3 ∧ cnt ≤ kk ∧ i = .int .i64 (kk : Nat) ∧ wh = .int .i64 (cnt : Nat) ∧ L3 wr lb q ∧ SlN wr (some ⟨bg, 0, none⟩) bl (enc z1) ∧ ∃ S, QH O (fun x => x = lb ∨ x = bg) wb wr t q N (some f) none S ∧ LyO R z1 S kk cnt) (fun _ i _ => 3 - (intOf i).toNat)
    case atStart => exact ⟨0, 0, Nat.zero_le _, Nat.zero_le _, rfl, rfl, HL5.out, HSB.out, S, HQ5.out, HLY.out⟩
    case round =>
      obtain ⟨kk, cnt, hk, hcn, rfl, rfl, hl3, hsb, S, hq, hly⟩ := hrel
      have HQ := hid hq
      have HL := hid hl3
      have HS := hid hsb
      have HY1 := hid hly
      have HCN := hid hcn
      clear hq hl3 hsb hly HQ5 HL5 HSB HLY
      have j0 : (0 : Int) ≤ (kk : Int) := by omega
      by_cases hlt : kk < 3
      · as_aux_lemma =>
          have j1 : (kk : Int) < 3 := by omega
          have HKK := hid hlt
          have ck := HL.out.cell kk hlt
          have cx := (HX.out.nxt HQ.out.up).cell kk hlt
          obtain ⟨m, hm, _⟩ := FrL.mask16 (X kk)
          obtain ⟨d, D⟩ : ∃ d : Nat, Hid (bl + 1 = d) := ⟨_, rfl⟩
          have e1 : (bl : Int) + 1 = (d : Int) := by have := D.out; omega
          obtain ⟨n, hn, hnl⟩ := FrL.rem_lit m d (by have := D.out; omega)
          have b1 : ¬ (d : Int) = 0 := by have := D.out; omega
          have HNL : Hid (n ≤ bl) := by have := D.out; show _ ≤ _; omega
          have n0 : (0 : Int) ≤ (n : Int) := by omega
          have b2 : (bl : Int) ≤ 1000 := by have := BL.out; have := HL1.out; omega
          have HB2 : Hid (bl ≤ 1000) := by have := BL.out; have := HL1.out; show _ ≤ _; omega
          clear hk hlt hnl hcn
          go_upto_region 21 with fail
          rw [hn]
          have HEL : Hid ((enc z1).length = bl) := by show _ = _; rw [enc_length, HB.out.len]; exact BL.out
          obtain ⟨cn, CN⟩ : ∃ cn : Nat, Hid (cn = cnt + one (decide (n = bl))) := ⟨_, rfl⟩
          have HCN2 : Hid (cn ≤ kk + 1) := by
            have := CN.out
            have := HCN.out
            have := one_le (decide (n = bl))
            show _ ≤ _
            omega
          obtain ⟨u, US⟩ : ∃ u : Int, Hid (u = (cn : Int)) := ⟨_, rfl⟩
          clear hn hm e1 b1
          have hbr : n = bl ∨ ¬ n = bl := by omega
          rcases hbr with h | h
          focus
            have k3 : ((n : Int) == (bl : Int)) = true := by simp [h]
            have e2 : (cnt : Int) + 1 = u := by
              rw [US.out, CN.out, h]
              simp [one]
            have c0 : (0 : Int) ≤ (cnt : Int) := by omega
            have c1 : (cnt : Int) ≤ 3 := by have := HCN.out; have := HKK.out; omega
            clear h
            go_upto_region 23 with fail
            clear e2 c0 c1 k3
          rotate_left
          focus
            have k3 : ((n : Int) == (bl : Int)) = false := by simp; omega
            have e2 : (cnt : Int) = u := by
              rw [US.out, CN.out]
              simp [h, one]
            clear h
            go_upto_region 23 with fail
            rw [e2]
            clear e2 k3
          all_goals
            have s1 : ∀ V : World, (Instr.slice 30 (.slice (some ⟨bg, 0, none⟩) bl bc) none (some (.int .i64 n)) none).run Try.prog V = .ok (.slice (some ⟨bg, 0, none⟩) n bc) V := fun V => run_upto _ _ _ _ (by have := HNL.out; have := HBC.out; omega) V
            have HQD := hid (HQ.out.nxt ((Up.refl Nul wr).drew))
            have HLD := hid (HL.out.nxt ((Up.refl Nul wr).drew))
            have HSD := hid (HS.out.nxt ((Up.refl Nul wr).drew))
            have hSk := HY1.out.rest kk (Nat.le_refl _) HKK.out
            have HSK : Hid (S kk = ⟨flt R, 0, true⟩) := hSk
            have HAPP := hid (qh_tput HQD.out HKK.out bc (HSD.out.upto HNL.out) (by have := HNL.out; have := HBC.out; omega) (by
              rw [hSk]
              show (flt R).length + n ≤ 65536
              have := flt_le HRC.out
              have := HRn.out
              have := HNL.out
              have := HB2.out
              omega) (.inr fun x hx => .inl (.inr (by cases hx; rfl))) (by rw [hSk]))
            have HCK : Hid (wr.drew.cell? ⟨lb, kk, none⟩ = some (.pointer (some ⟨q kk, 0, none⟩))) := HLD.out.cell kk HKK.out
            have s2 := s1 wr.drew
            have ck2 := HCK.out
            clear hSk cx
            go_region_held3 (fun V => V.cell? ⟨lb, kk, none⟩ = some (.pointer (some ⟨q kk, 0, none⟩)))
              (first | exact HCK.out | assumption)
              (first
                | (go_at_call 37; (with_reducible refine HAPP.out.mono ?_); rintro e w6 ⟨rfl, h6, tp6⟩; have H6 := hid h6; have HL6 := hid (HLD.out.tp tp6 (.inl rfl)); have HS6 := hid (HSD.out.tp tp6 fun x hx => .inr (by cases hx; rfl)); have c6 := HL6.out.cell kk HKK.out; clear h6 tp6)
                | (go_at_call 38; (with_reducible refine (qh_tsync H6.out HKK.out (by rw [updT_same])).mono ?_); rintro e w7 ⟨rfl, h7, tp7⟩; have H7 := hid h7; have HL7 := hid (HL6.out.tp tp7 (.inl rfl)); have HS7 := hid (HS6.out.tp tp7 fun x hx => .inr (by cases hx; rfl)); have c7 := HL7.out.cell kk HKK.out; clear h7 tp7)
                | fail)
            all_goals
              have HLN : Hid (LyO R z1 (updT (updT S kk ⟨(S kk).B ++ (enc z1).take n, (S kk).loose + n, true⟩) kk ⟨(updT S kk ⟨(S kk).B ++ (enc z1).take n, (S kk).loose + n, true⟩ kk).B, 0, true⟩) (kk + 1) cn) := by
                have := HY1.out.next (n := n) (S' := updT (updT S kk ⟨(S kk).B ++ (enc z1).take n, (S kk).loose + n, true⟩) kk ⟨(updT S kk ⟨(S kk).B ++ (enc z1).take n, (S kk).loose + n, true⟩ kk).B, 0, true⟩) (by have := HEL.out; have := HNL.out; omega) (fun i hi => by rw [updT_other _ _ hi, updT_other _ _ hi]) (by rw [updT_same, updT_same, HSK.out])
                rw [HEL.out, ← CN.out] at this
                exact this
              clear HAPP H6 HL6 HS6 c6 c7 HQ HL HS HQD HLD HSD HCK s1 s2 ck ck2 HY1
              go_wp2_with fail
              go_roundw
              case rel => exact ⟨kk + 1, cn, HKK.out, HCN2.out, by go_num, by rw [US.out], HL7.out, HS7.out, _, H7.out, HLN.out⟩
              case measure => have := HKK.out; simp [intOf]; omega
      · obtain rfl : kk = 3 := by omega
        have j1 : ¬ ((3 : Nat) : Int) < 3 := by omega
        have HIN := hid HY1.out.inv
        clear hk hlt hcn HY1 HS
        go_upto_region 26 with fail
        obtain ⟨W, HW⟩ : ∃ W, Hid ((if 2 ≤ cnt then R ++ [z1] else R) = W) := ⟨_, rfl⟩
        rw [HW.out] at HIN
        obtain ⟨rn, RN⟩ : ∃ rn, Hid (R.length = rn) := ⟨_, rfl⟩
        have hm : min (l0 : Int) 10 = (rn : Int) := by have := RN.out; have := HRn.out; omega
        rw [hm]
        obtain ⟨nw, NW⟩ : ∃ nw, Hid (W.length = nw) := ⟨_, rfl⟩
        have HQF : Hid (QH O (fun x => x = lb) wb wr t q N (some f) none S) := HQ.out.less fun x hx => .inl hx
        have HN11 : Hid (nw ≤ 11) := by
          have := NW.out
          have := HRn.out
          show _ ≤ _
          rw [← NW.out, ← HW.out]
          split
          · rw [List.length_append, List.length_singleton]; omega
          · omega
        have hr1 : (0 : Int) ≤ (rn : Int) := by omega
        have hr2 : (rn : Int) ≤ 10 := by have := RN.out; have := HRn.out; omega
        clear hm HQ
        by_cases h : 2 ≤ cnt
        focus
          have k3 : (2 : Int) ≤ (cnt : Int) := by omega
          have e2 : (rn : Int) + 1 = (nw : Int) := by
            rw [← NW.out, ← HW.out, if_pos h, List.length_append, List.length_singleton, RN.out]
            omega
          have HWW : Hid (W = R ++ [z1] ∨ W = R) := .inl (by rw [← HW.out, if_pos h])
          clear h
          go_upto_block 4 with fail
          clear k3 e2
        rotate_left
        focus
          have k3 : ¬ (2 : Int) ≤ (cnt : Int) := by omega
          have e2 : rn = nw := by rw [← NW.out, ← HW.out, if_neg h, RN.out]
          have HWW : Hid (W = R ++ [z1] ∨ W = R) := .inr (by rw [← HW.out, if_neg h])
          clear h
          go_upto_block 4 with fail
          rw [e2]
          clear k3 e2
        all_goals as_aux_lemma =>
          clear hr1 hr2 j1 HW HCN
          go_wp2_with fail
          go_loopw [20] (fun i wr => ∃ qq : Nat, qq ≤ 6 ∧ qq ≤ l3 ∧ i = .int .i64 (qq : Nat) ∧ L3 wr lb q ∧ ∃ t' S k N, QH O (fun x => x = lb) wb wr t' q N (some f) k S ∧ InvO R z1 W S) (fun i _ => 6 - (intOf i).toNat)
          case atStart => exact ⟨0, Nat.zero_le _, Nat.zero_le _, rfl, HL.out, t, S, none, N, HQF.out, HIN.out⟩
          case round =>
            clear HL HQF HIN
            obtain ⟨qq, hq6, hql, rfl, hl3, t', S, k, N, hq, hin⟩ := hrel
            have HQ := hid hq
            have HL := hid hl3
            have HI := hid hin
            clear hq hl3 hin
            have j0 : (0 : Int) ≤ (qq : Int) := by omega
            by_cases hboth : qq < l3 ∧ qq < 6
            · obtain ⟨hlt, h6⟩ := hboth
              as_aux_lemma =>
                have j1 : (qq : Int) < (l3 : Int) := by omega
                have j2 : (qq : Int) < 6 := by omega
                have HQL := hid (And.intro h6 hlt)
                obtain ⟨g, o, rfl, hg, hc3⟩ := H3.out.row.resolve_left (by omega)
                have y0 : wr.cell? ⟨g, o + qq, none⟩ = some (.int .i64 (f3 qq)) := (HQ.out.up.cell (p := ⟨g, o + qq, none⟩) hg id).trans (hc3 qq hlt)
                obtain ⟨m, hm, hm2⟩ := FrL.i64_mask 3 (by omega) (f3 qq)
                have hm : bits .and .i64 (f3 qq) 7 = (m : Int) := hm
                have hm2 : m < 8 := hm2
                have i1 : IntKind.i64.wrap ((m : Int) + 1) = (m : Int) + 1 := IntWalk.i64_in _ (by omega)
                obtain ⟨cc, recs, S1, kx, hop, hcs, hcr⟩ := HI.out.open (fun y hy => (HRC.out y hy).1) HZ.out.1 (some (m + 1))
                have HCR := hid hcr
                have HOPE := hid hop
                clear hlt h6 hq6 hql hg hc3 hop hcr
                go_wp2_with fail
                refine (set_any f k ((m : Int) + 1) wr HQ.out.fz (by omega)).mono ?_
                rintro e w7 ⟨rfl, hz, uz, _⟩
                rw [ofk_pos] at hz
                have H7 := hid (HQ.out.fuse uz hz)
                have HNF : Hid (¬ lb = f) := fun e => (HQ.out.fnew f rfl).2 e.symm
                have HL7 : Hid (L3 w7 lb q) := ⟨fun i hi => (uz.cell (p := ⟨lb, i, none⟩) HL.out.lt fun e => HNF.out e).trans (HL.out.cell i hi), Nat.lt_of_lt_of_le HL.out.lt uz.size⟩
                have k0 := HL7.out.cell 0 (by omega)
                have k1 := HL7.out.cell 1 (by omega)
                have k2 := HL7.out.cell 2 (by omega)
                clear hz uz HQ HL HNF hm hm2 i1 y0
                rcases hcs with ⟨rfl, rfl⟩ | ⟨rfl, rfl⟩
                focus
                  have HOP := hid (qh_openE H7.out HOPE.out)
                  unfold tri at HOP
                  go_wp2_with fail
                  refine HOP.out.mono ?_
                  rintro e w8 ⟨t2, v, rfl, hr, h8, tp⟩
                  obtain ⟨va, vc, rfl, _⟩ := hr
                  have HQ8 : Hid (∃ t2 N2, QH O (fun x => x = lb) wb w8 t2 q N2 (some f) kx S1) := ⟨_, _, h8⟩
                  have HL8 := hid (HL7.out.tp tp rfl)
                  rw [NW.out]
                  clear h8 tp HOP H7 HL7 k0 k1 k2 HOPE
                  go_upto_block 6 with fail
                rotate_left
                focus
                  have HOP := hid (qh_openNo H7.out HOPE.out (by decide))
                  unfold tri at HOP
                  go_wp2_with fail
                  refine HOP.out.mono ?_
                  rintro e w8 ⟨va, vc, rfl, h8, tp⟩
                  have HQ8 : Hid (∃ t2 N2, QH O (fun x => x = lb) wb w8 t2 q N2 (some f) kx S1) := ⟨_, _, h8⟩
                  have HL8 := hid (HL7.out.tp tp rfl)
                  clear h8 tp HOP H7 HL7 k0 k1 k2 HOPE
                  go_upto_block 6 with fail
                all_goals as_aux_lemma =>
                  go_wp2_with fail
                  go_loopw [24] (fun i wr => ∃ kk : Nat, kk ≤ 3 ∧ i = .int .i64 (kk : Nat) ∧ L3 wr lb q ∧ ∃ t2 N2 S', QH O (fun x => x = lb) wb wr t2 q N2 (some f) kx S' ∧ (∀ i, i < kk → S' i = (S1 i).crash (Y i)) ∧ ∀ i, kk ≤ i → S' i = S1 i) (fun i _ => 3 - (intOf i).toNat)
                  case atStart =>
                    obtain ⟨t2, N2, h8⟩ := HQ8.out
                    exact ⟨0, Nat.zero_le _, rfl, HL8.out, t2, N2, S1, h8, fun i hi => absurd hi (Nat.not_lt_zero i), fun i _ => rfl⟩
                  case round =>
                    obtain ⟨kk, hk, rfl, hl3, t2, N2, S', hq, hlo, hhi⟩ := hrel
                    have HQ := hid hq
                    have HL4 := hid hl3
                    have HLO := hid hlo
                    have HHI := hid hhi
                    clear hq hl3 hlo hhi HQ8 HL8
                    have p0 : (0 : Int) ≤ (kk : Int) := by omega
                    by_cases hlt : kk < 3
                    · have p1 : (kk : Int) < 3 := by omega
                      have HKK := hid hlt
                      have ck := HL4.out.cell kk hlt
                      clear hk hlt
                      go_upto_region 38 with fail
                      have HYC := hid ((HY.out.nxt HQ.out.up).cell kk HKK.out)
                      have ck' : wr.drew.cell? ⟨lb, kk, none⟩ = some (.pointer (some ⟨q kk, 0, none⟩)) := ck
                      have cx' : wr.drew.cell? ⟨yb, kk, none⟩ = some (.int .i64 (Y kk)) := HYC.out
                      go_still_tail 6, (by kernel_rfl)
                      change wpList _ _ _ _ _ wr.drew
                      have HQD := hid (HQ.out.nxt ((Up.refl Nul wr).drew))
                      have HLD := hid (HL4.out.nxt ((Up.refl Nul wr).drew))
                      clear HQ HL4 ck ck' cx' HYC
                      generalize wr.drew = wd at HQD HLD ⊢
                      go_wp2_with fail
                      refine (qh_crash HQD.out HKK.out (Y kk)).mono ?_
                      rintro e w6 ⟨rfl, h6, tp⟩
                      have H6 := hid h6
                      have HL6 := hid (HLD.out.tp tp rfl)
                      clear h6 tp HQD HLD
                      go_wp2_with fail
                      go_roundw
                      case rel => exact ⟨kk + 1, HKK.out, by go_num, HL6.out, t2, N2, _, H6.out, fun i hi => by
                        by_cases e : i = kk
                        · rw [e, updT_same, HHI.out kk (Nat.le_refl _)]
                        · rw [updT_other _ _ e]; exact HLO.out i (by omega), fun i hi => by
                          rw [updT_other _ _ (by omega)]; exact HHI.out i (by omega)⟩
                      case measure => have := HKK.out; simp [intOf]; omega
                    · obtain rfl : kk = 3 := by omega
                      have p1 : ¬ ((3 : Nat) : Int) < 3 := by omega
                      have HQE : Hid (QH O (fun x => x = lb) wb wr t2 q N2 (some f) kx fun i => (S1 i).crash (Y i)) := HQ.out.same fun i hi => by
                        rw [HLO.out i hi]
                        exact Alk.refl _
                      clear hk hlt HQ
                      go_wp2_with fail
                      go_roundw
                      case rel => exact ⟨qq + 1, HQL.out.1, HQL.out.2, by go_num, HL4.out, t2, _, ⟨kx, N2, HQE.out⟩, HCR.out Y⟩
                      case measure => have := HQL.out; simp [intOf]; omega
            · have hm : min (l0 : Int) 10 = (rn : Int) := by have := RN.out; have := HRn.out; omega
              obtain ⟨S1, hop, _⟩ := opn_none (S := S) (by rw [nlv_all fun i hi => (HI.out.part i hi).live]; omega)
              rw [HI.out.best (fun y hy => (HRC.out y hy).1) HZ.out.1] at hop
              have HOPE := hid hop
              clear hop
              have h9 : ¬ qq < l3 ∨ (qq < l3 ∧ ¬ qq < 6) := by omega
              rcases h9 with h | ⟨h, h'⟩
              focus
                have j1 : ¬ (qq : Int) < (l3 : Int) := by omega
                clear h hboth hq6 hql
                go_upto_region 39 with fail
                clear j1
              rotate_left
              focus
                have j1 : (qq : Int) < (l3 : Int) := by omega
                have j2 : ¬ (qq : Int) < 6 := by omega
                clear h h' hboth hq6 hql
                go_upto_region 39 with fail
                clear j1 j2
              all_goals as_aux_lemma =>
                go_wp2_with fail
                refine (set_any f k 0 wr HQ.out.fz (by omega)).mono ?_
                rintro e w7 ⟨rfl, hz, uz, _⟩
                have H7 : Hid (QH O (fun x => x = lb) wb w7 t' q N (some f) none S) := HQ.out.fuse uz hz
                have HNF : Hid (¬ lb = f) := fun e => (HQ.out.fnew f rfl).2 e.symm
                have HL7 : Hid (L3 w7 lb q) := ⟨fun i hi => (uz.cell (p := ⟨lb, i, none⟩) HL.out.lt fun e => HNF.out e).trans (HL.out.cell i hi), Nat.lt_of_lt_of_le HL.out.lt uz.size⟩
                have k0 := HL7.out.cell 0 (by omega)
                have k1 := HL7.out.cell 1 (by omega)
                have k2 := HL7.out.cell 2 (by omega)
                have HOP := hid (qh_openE H7.out HOPE.out)
                unfold tri at HOP
                clear hz uz HQ HL HNF HI HOPE
                go_wp2_with fail
                refine HOP.out.mono ?_
                rintro e w8 ⟨t2, v, rfl, hr, h8, _⟩
                obtain ⟨va, vc, rfl, hr⟩ := hr
                have HRR8 := hid hr
                have U8 := hid h8.up
                rw [NW.out]
                clear h8 hr HOP H7 HL7 k0 k1 k2 j0
                go_wp2_with fail
                go_loopw [28] (fun i wr => ∃ ii : Nat, ii ≤ nw ∧ i = .int .i64 (ii : Nat) ∧ Up Nul w8 wr) (fun i _ => nw - (intOf i).toNat)
                case atStart => exact ⟨0, Nat.zero_le _, rfl, Up.refl _ _⟩
                case round =>
                  obtain ⟨ii, hii, rfl, hu⟩ := hrel
                  have HU := hid hu
                  have HUB : Hid (Up Nul wb wr) := U8.out.trans hu
                  clear hu
                  have p0 : (0 : Int) ≤ (ii : Int) := by omega
                  by_cases hlt : ii < nw
                  · have p1 : (ii : Int) < (nw : Int) := by omega
                    have HII := hid hlt
                    have hlw : ii < W.length := by rw [NW.out]; exact hlt
                    obtain ⟨y, hy⟩ : ∃ y, W[ii]? = some y := ⟨_, List.getElem?_eq_getElem hlw⟩
                    obtain ⟨g, o, rfl, hg, hc⟩ := HRR8.out.resolve_left (by omega)
                    obtain ⟨ea, ec, x0, sl⟩ := hc ii y hy
                    have y0 : wr.cell? ⟨g, o + ii, none⟩ = some (.slice ea y.length ec) := (HU.out.cell (p := ⟨g, o + ii, none⟩) hg id).trans x0
                    have z0 : ∀ n, (convert 30 9 (.slice ea y.length ec)).run Try.prog (wr.drewN n) = .ok (.string (strOf y)) (wr.drewN n) := fun n => (sl.nxt (HU.out.drewN n)).conv ec
                    obtain ⟨sz, SZ⟩ : ∃ sz, Hid (strOf y = sz) := ⟨_, rfl⟩
                    simp only [SZ.out] at z0
                    obtain ⟨yl, YL⟩ : ∃ yl, Hid (y.length = yl) := ⟨_, rfl⟩
                    simp only [YL.out] at y0 z0
                    clear x0 sl hg hc
                    by_cases hin : ii < rn
                    · have p2 : (ii : Int) < (l0 : Int) := by omega
                      have p3 : (ii : Int) < 10 := by omega
                      have p4 : ¬ (rn : Int) ≤ (ii : Int) := by omega
                      have hl0 : ii < l0 := by omega
                      obtain ⟨g2, o2, z, ea2, ec2, rfl, hzj, hsl, _, hcell⟩ := HR.out.at hl0
                      have y2 := hcell wr HUB.out
                      have z2 : ∀ n, (convert 30 9 (.slice ea2 z.length ec2)).run Try.prog (wr.drewN n) = .ok (.string (strOf z)) (wr.drewN n) := fun n => (hsl.nxt (HUB.out.drewN n)).conv ec2
                      have hz : strOf z = sz := by
                        have hRi : ii < R.length := by rw [RN.out]; exact hin
                        have e1 : R[ii]? = some y := by
                          rcases HWW.out with e | e
                          · rw [e, List.getElem?_append_left hRi] at hy; exact hy
                          · rw [e] at hy; exact hy
                        rw [← HRR.out, List.getElem?_take, if_pos (by have := RN.out; have := HRn.out; omega), hzj] at e1
                        injection e1 with e1
                        rw [e1]
                        exact SZ.out
                      simp only [hz] at z2
                      obtain ⟨zl, ZL⟩ : ∃ zl, Hid (z.length = zl) := ⟨_, rfl⟩
                      simp only [ZL.out] at y2 z2
                      clear hin hl0 hz hsl hcell hzj hlt hii hy hlw
                      go_upto_region 46 with fail
                      trace_state
                      go_quiet (fail)
                      clear z0 z2 y0 y2
                      go_wp2_with fail
                      go_roundw
                      case rel => exact ⟨ii + 1, HII.out, by go_num, HU.out.drewN _⟩
                      case measure => have := HII.out; simp [intOf]; omega
                    · have hwr : W = R ++ [z1] := by
                        rcases HWW.out with e | e
                        · exact e
                        · have := RN.out
                          rw [e] at hlw
                          omega
                      have hir : ii = rn := by
                        have := RN.out
                        rw [hwr, List.length_append, List.length_singleton] at hlw
                        omega
                      have hyz : y = z1 := by
                        rw [hwr, List.getElem?_append_right (by rw [RN.out]; omega), RN.out, hir, Nat.sub_self] at hy
                        injection hy with hy
                        exact hy.symm
                      have z2 : ∀ n, (convert 30 9 (.slice a1 l1 c1)).run Try.prog (wr.drewN n) = .ok (.string (strOf z1)) (wr.drewN n) := fun n => (HB.out.nxt (HUB.out.drewN n)).conv c1
                      have hsz : strOf z1 = sz := by rw [← hyz]; exact SZ.out
                      simp only [hsz] at z2
                      have p4 : (rn : Int) ≤ (ii : Int) := by omega
                      have hcase : l0 ≤ ii ∨ (ii < l0 ∧ 10 ≤ ii) := by have := RN.out; have := HRn.out; omega
                      clear hwr hyz hsz hin hlt hii hy hlw
                      rcases hcase with h | ⟨h, h'⟩
                      focus
                        have p2 : ¬ (ii : Int) < (l0 : Int) := by omega
                        clear h hir
                        go_upto_region 46 with fail
                        go_quiet (fail)
                        clear p2
                      rotate_left
                      focus
                        have p2 : (ii : Int) < (l0 : Int) := by omega
                        have p3 : ¬ (ii : Int) < 10 := by omega
                        clear h h' hir
                        go_upto_region 46 with fail
                        go_quiet (fail)
                        clear p2 p3
                      all_goals
                        have p5 : (ii : Int) < 100 := by have := HII.out; have := HN11.out; omega
                        clear z0 z2 y0 p4
                        go_wp2_with fail
                        go_roundw
                        case rel => exact ⟨ii + 1, HII.out, by go_num, HU.out.drewN _⟩
                        case measure => have := HII.out; simp [intOf]; omega
                  · obtain rfl : ii = nw := by omega
                    have p1 : ¬ (ii : Int) < (ii : Int) := by omega
                    clear hlt hii
                    go_wp2_with fail
                    refine (qawake_any O _).mono ?_
                    rintro e w9 ⟨rfl, ka⟩
                    have UE := hid (UB.out.trans (HUB.out.trans ka))
                    clear ka
                    go_wp2_with fail
                    go_ret
                    exact ⟨rfl, UE.out.below (Nat.le_refl _) fun _ _ h => h⟩
theorem topens_walk (O : TrioOps) (a0 : Option Addr) (l0 c0 : Nat) (a1 : Option Addr) (l1 c1 : Nat) (z1 : List Int) (x0 x1 x2 : Int) (a3 : Option Addr) (l3 c3 : Nat) (z3 : List Int) (y0 y1 y2 : Int) (w : World) (w0 : CamS w a0 l0 c0) (w1 : CameIn w a1 l1 c1 z1) (w3 : CameI w a3 l3 c3 z3) :
    Calls Try.prog 9 #[.slice a0 l0 c0, .slice a1 l1 c1, .agg #[.int .i64 x0, .int .i64 x1, .int .i64 x2], .slice a3 l3 c3, .agg #[.int .i64 y0, .int .i64 y1, .int .i64 y2]] w fun e w' => e = .returned (.bool true) ∧ Below w.heap.size w w' := by
  obtain ⟨L0, r0⟩ := w0.rin
  obtain ⟨z, hz⟩ := SlN.of w1
  obtain ⟨f3, h3⟩ := SlI.of w3
  exact topens_in O a0 l0 c0 L0 a1 l1 c1 z (fun i => if i = 0 then x0 else if i = 1 then x1 else x2) a3 l3 c3 f3 (fun i => if i = 0 then y0 else if i = 1 then y1 else y2) w r0 hz (came_cap w1) h3
end Go.Proofs.Ytencinajieicpaa
