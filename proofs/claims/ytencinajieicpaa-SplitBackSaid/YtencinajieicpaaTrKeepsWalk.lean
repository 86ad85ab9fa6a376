/- The law TrioKeeps, walked, whatever the program's Trio is. -/
import Derived.Test.YtencinajieicpaaTrIn
import Derived.StillTailTactics
namespace Go.Proofs.Ytencinajieicpaa
open Go.RowKit
set_option linter.unusedVariables false

/-- A record of bytes. -/
def RecB (y : List Nat) : Prop := Rec y ∧ ∀ i, y.getD i 0 < 256
theorem flt_le {R : List (List Nat)} (h : ∀ y ∈ R, RecB y) : (flt R).length ≤ 251 * R.length := by
  induction R with
  | nil => simp [flt]
  | cons y R ih =>
    rw [flt_cons, List.length_append, enc_length, List.length_cons]
    have h1 := (h y (List.mem_cons_self ..)).1
    have h2 := ih fun x hx => h x (List.mem_cons_of_mem _ hx)
    unfold Rec at h1
    omega
/-- The Tapes behind the records. -/
structure KpM (R : List (List Nat)) (z : List Nat) (b : Bool) (S : Nat → TS) : Prop where
  recs : ∀ y ∈ R, RecB y
  hz : RecB z
  part : ∀ i, i < 3 → Prt R z (S i)
  no : b = false → ∀ i, i < 3 → whl R z (S i) = false
  len : R.length ≤ 20
theorem prt_flat {R : List (List Nat)} (z : List Nat) : Prt R z ⟨flt R, 0, true⟩ := ⟨rfl, 0, Nat.zero_le _, by simp, Nat.le_refl _⟩
theorem prt_full {R : List (List Nat)} (z : List Nat) : Prt R z ⟨flt R ++ enc z, (enc z).length, true⟩ := ⟨rfl, (enc z).length, Nat.le_refl _, by simp, Nat.le_refl _⟩
theorem whl_flat {R : List (List Nat)} (z : List Nat) : whl R z ⟨flt R, 0, true⟩ = false := by
  rw [whl_take (j := 0) (Nat.zero_le _) (by simp)]
  simp [enc]
theorem KpM.flat {R : List (List Nat)} {S : Nat → TS} (h : ∀ y ∈ R, RecB y) (hl : R.length ≤ 20) (hS : ∀ i, i < 3 → S i = ⟨flt R, 0, true⟩) : KpM R [0] false S :=
  ⟨h, ⟨⟨by decide, by decide⟩, fun i => by cases i <;> simp⟩, fun i hi => by rw [hS i hi]; exact prt_flat _, fun _ i hi => by rw [hS i hi]; exact whl_flat _, hl⟩
theorem KpM.dead {R : List (List Nat)} {z : List Nat} {S : Nat → TS} (h : ∀ y ∈ R, RecB y) (hl : R.length ≤ 20) (hz : RecB z) (hS : ∀ i, i < 3 → S i = ⟨flt R, 0, true⟩ ∨ S i = ⟨flt R ++ enc z, (enc z).length, true⟩) : KpM R z true S :=
  ⟨h, hz, fun i hi => by
    rcases hS i hi with e | e
    · rw [e]; exact prt_flat _
    · rw [e]; exact prt_full _, (fun e => by cases e), hl⟩
theorem KpM.crash {R : List (List Nat)} {z : List Nat} {b : Bool} {S : Nat → TS} (h : KpM R z b S) {k : Nat} (hk : k < 3) (x : Int) : KpM R z b (updT S k ((S k).crash x)) :=
  ⟨h.recs, h.hz, fun i hi => by
    by_cases e : i = k
    · rw [e, updT_same]; exact ((h.part k hk).crash x).1
    · rw [updT_other _ _ e]; exact h.part i hi, fun hb i hi => by
    by_cases e : i = k
    · rw [e, updT_same]
      cases hw : whl R z ((S k).crash x) with
      | false => rfl
      | true =>
        have := ((h.part k hk).crash x).2.2.1 hw
        rw [h.no hb k hk] at this
        cases this
    · rw [updT_other _ _ e]; exact h.no hb i hi, h.len⟩
/-- The Tapes that are live behind the crash. -/
structure KpL (R : List (List Nat)) (z : List Nat) (b : Bool) (S : Nat → TS) : Prop where
  recs : ∀ y ∈ R, RecB y
  hz : RecB z
  part : ∀ i, i < 3 → (S i).live = true → Prt R z (S i) ∧ (S i).loose = 0
  no : b = false → ∀ i, i < 3 → (S i).live = true → whl R z (S i) = false
  two : 2 ≤ nlv S
  len : R.length ≤ 20 + one (!b)
theorem KpM.all {R : List (List Nat)} {z : List Nat} {b : Bool} {S : Nat → TS} (h : KpM R z b S) (h0 : ∀ i, i < 3 → (S i).loose = 0) : KpL R z b S :=
  ⟨h.recs, h.hz, fun i hi _ => ⟨h.part i hi, h0 i hi⟩, fun hb i hi _ => h.no hb i hi, by rw [nlv_all fun i hi => (h.part i hi).live]; omega, Nat.le_trans h.len (Nat.le_add_right _ _)⟩
theorem KpM.lost {R : List (List Nat)} {z : List Nat} {b : Bool} {S : Nat → TS} (h : KpM R z b S) (h0 : ∀ i, i < 3 → (S i).loose = 0) {y : Nat} (hy : y < 3) : KpL R z b (updT S y ⟨(S y).B, (S y).loose, false⟩) := by
  have key : ∀ i, i < 3 → (updT S y ⟨(S y).B, (S y).loose, false⟩ i).live = true → updT S y ⟨(S y).B, (S y).loose, false⟩ i = S i := fun i hi hl => by
    by_cases e : i = y
    · rw [e, updT_same] at hl; cases hl
    · rw [updT_other _ _ e]
  refine ⟨h.recs, h.hz, fun i hi hl => by rw [key i hi hl]; exact ⟨h.part i hi, h0 i hi⟩, fun hb i hi hl => by rw [key i hi hl]; exact h.no hb i hi, ?_, Nat.le_trans h.len (Nat.le_add_right _ _)⟩
  have l0 := (h.part 0 (by omega)).live
  have l1 := (h.part 1 (by omega)).live
  have l2 := (h.part 2 (by omega)).live
  unfold nlv
  match y, hy with
  | 0, _ => simp [updT, l1, l2, one]
  | 1, _ => simp [updT, l0, l2, one]
  | 2, _ => simp [updT, l0, l1, one]
theorem KpL.open {R : List (List Nat)} {z : List Nat} {b : Bool} {S : Nat → TS} (h : KpL R z b S) : ∃ W S', tOpn S none = (0, W, S', none) ∧ (W = R ∨ (b = true ∧ W = R ++ [z])) ∧ KpL W [0] false S' := by
  obtain ⟨S', e, hS⟩ := opn_none h.two
  have hb := bst_two (h := fun i => whl R z (S i)) (fun i hi hl => (h.part i hi hl).1.spl (fun y hy => (h.recs y hy).1) h.hz.1) h.two
  have hW : bst S = R ∨ (b = true ∧ bst S = R ++ [z]) := by
    split at hb
    · rename_i hc
      refine .inr ⟨?_, hb⟩
      cases b with
      | true => rfl
      | false =>
        have hn : ∀ i, i < 3 → ((S i).live && whl R z (S i)) = false := fun i hi => by
          cases hl : (S i).live with
          | false => rfl
          | true => rw [h.no rfl i hi hl]; rfl
        rw [hn 0 (by omega), hn 1 (by omega), hn 2 (by omega)] at hc
        exact absurd hc (by decide)
    · exact .inl hb
  have hlv : ∀ i, i < 3 → (S' i).live = (S i).live := fun i hi => by
    cases hl : (S i).live with
    | true => exact ((hS i hi).1 hl).2.1
    | false => rw [(hS i hi).2 hl, hl]
  have hfl : ∀ i, i < 3 → (S' i).live = true → S' i = ⟨flt (bst S), 0, true⟩ := fun i hi hl => by
    rw [hlv i hi] at hl
    obtain ⟨a1, a2, a3⟩ := (hS i hi).1 hl
    have a3 := a3 (h.part i hi hl).2
    cases hs : S' i with
    | mk B lo lv =>
      rw [hs] at a1 a2 a3
      simp only at a1 a2 a3
      rw [a1, a2, a3]
  refine ⟨bst S, S', e, hW, ⟨fun y hy => ?_, ⟨⟨by decide, by decide⟩, fun i => by cases i <;> simp⟩, fun i hi hl => by rw [hfl i hi hl]; exact ⟨prt_flat _, rfl⟩, fun _ i hi hl => by rw [hfl i hi hl]; exact whl_flat _, ?_, ?_⟩⟩
  · rcases hW with e | ⟨_, e⟩
    · rw [e] at hy; exact h.recs y hy
    · rw [e] at hy
      rcases List.mem_append.1 hy with e | e
      · exact h.recs y e
      · rw [List.mem_singleton.1 e]; exact h.hz
  · have := h.two
    unfold nlv at this ⊢
    rw [hlv 0 (by omega), hlv 1 (by omega), hlv 2 (by omega)]
    exact this
  · have hl := h.len
    rcases hW with e | ⟨hb, e⟩
    · rw [e]
      have := one_le (!b)
      show _ ≤ 20 + 1
      omega
    · rw [e, List.length_append]
      subst hb
      exact Nat.add_le_add_right hl 1
theorem ofk_pos (m : Nat) : ofk ((m : Int) + 1) = some (m + 1) := by
  unfold ofk
  rw [if_pos (by omega)]
  congr 1
/-- A row of the law's own stays. -/
theorem OwnV.stay {T : TypeId} {base : Nat} {P : Nat → Prop} {w w' : World} {v : Value} {xs : List Value} (h : OwnV T base w v xs) (tp : Tp P w w') (hp : ∀ x, v.ownBlock = some x → P x) : OwnV T base w' v xs := by
  obtain ⟨b1, b2⟩ := h
  refine ⟨b1, b2.imp id ?_⟩
  rintro ⟨gg, cap, cur, e1, e2, e3, e4⟩
  exact ⟨gg, cap, cur, e1, e2, (tp.2 gg (hp gg (by rw [e1]; rfl))).trans e3, e4⟩
theorem OwnV.weak {T : TypeId} {base b2 : Nat} {w : World} {v : Value} {xs : List Value} (h : OwnV T base w v xs) (hb : b2 ≤ base) : OwnV T b2 w v xs := by
  refine ⟨h.1, ?_⟩
  rcases h.2 with e | ⟨g, cap, cur, h1, h2, h3⟩
  · exact .inl e
  · exact .inr ⟨g, cap, cur, h1, Nat.le_trans hb h2, h3⟩
theorem OwnV.keep {T : TypeId} {base : Nat} {w w' : World} {v : Value} {xs : List Value} (h : OwnV T base w v xs) (hk : ∀ g, v.ownBlock = some g → w'.heap[g]? = w.heap[g]?) : OwnV T base w' v xs := by
  obtain ⟨b1, b2⟩ := h
  refine ⟨b1, b2.imp id ?_⟩
  rintro ⟨gg, cap, cur, e1, e2, e3, e4⟩
  exact ⟨gg, cap, cur, e1, e2, (hk gg (by rw [e1]; rfl)).trans e3, e4⟩
/-- The law's array of three ints. -/
structure I3 (w : World) (b : Nat) (X : Nat → Int) : Prop where
  cell : ∀ i, i < 3 → w.cell? ⟨b, i, none⟩ = some (.int .i64 (X i))
  lt : b < w.heap.size
theorem I3.nxt {w w' : World} {b : Nat} {X : Nat → Int} (h : I3 w b X) (u : Up Nul w w') : I3 w' b X := ⟨fun i hi => (u.cell (p := ⟨b, i, none⟩) h.lt id).trans (h.cell i hi), Nat.lt_of_lt_of_le h.lt u.size⟩
theorem i3_new (w : World) (X : Nat → Int) : I3 (w.alloc (.cells #[.int .i64 (X 0), .int .i64 (X 1), .int .i64 (X 2)] 60)) w.heap.size X := ⟨fun i hi => by
  match i, hi with
  | 0, _ => exact World.cell?_alloc_new _ _ _ 0
  | 1, _ => exact World.cell?_alloc_new _ _ _ 1
  | 2, _ => exact World.cell?_alloc_new _ _ _ 2, by simp⟩
theorem SlN.smalls {w : World} {a : Option Addr} {n : Nat} {z : List Nat} (h : SlN w a n z) (i : Nat) : z.getD i 0 < 256 := by
  rcases h.row with e | ⟨b, o, _, _, r⟩
  · have hl := h.len
    rw [e] at hl
    rw [List.eq_nil_of_length_eq_zero hl]
    simp
  · exact r.small i
set_option maxRecDepth 100000 in
set_option maxHeartbeats 12800000 in
theorem tkeeps_in (O : TrioOps) (a0 : Option Addr) (l0 c0 : Nat) (L0 : List (List Nat)) (a1 : Int) (X : Nat → Int) (a3 : Int) (w : World) (w0 : RIn w a0 l0 L0) :
    Calls Try.prog 8 #[.slice a0 l0 c0, .int .i64 a1, .agg #[.int .i64 (X 0), .int .i64 (X 1), .int .i64 (X 2)], .int .i64 a3] w fun e w' => e = .returned (.bool true) ∧ Below w.heap.size w w' := by
  have UB := hid ((Up.refl Nul w).alloc (.cells #[.int .i64 (X 0), .int .i64 (X 1), .int .i64 (X 2)] 60))
  have HR := hid (w0.nxt UB.out)
  have HI := hid (i3_new w X)
  have l2 : (l0 : Int) ≤ 9223372036854775807 := by have := w0.le; omega
  have HWL : Hid (w.heap.size ≤ (w.alloc (.cells #[.int .i64 (X 0), .int .i64 (X 1), .int .i64 (X 2)] 60)).heap.size) := UB.out.size
  obtain ⟨m, hm, hm2⟩ := FrL.i64_mask 6 (by omega) a1
  have hm : bits .and .i64 a1 63 = (m : Int) := hm
  have hm2 : m < 64 := hm2
  have i1 : IntKind.i64.wrap ((m : Int) + 1) = (m : Int) + 1 := IntWalk.i64_in _ (by omega)
  have HM := hid hm2
  clear w0
  go_enter Try.func8, Try.ntmps8
  go_wp2_with fail
  generalize hwb : World.alloc w _ = wb at UB HR HI HWL ⊢
  clear hwb
  generalize w.heap.size = xb at HI HWL ⊢
  refine (newFuse_any 0 wb (by omega)).mono ?_
  rintro e w1 ⟨f, rfl, hf, uf, hfn⟩
  have HF : Hid (FzO w1 (some f) none) := hf
  have HFN := hid hfn
  have UF := hid uf
  clear hf uf hfn
  go_wp2_with fail
  refine (qh_new (w0 := wb) (fu := some f) (k := none) O UF.out HF.out (fun g e => by cases e; exact HFN.out)).mono ?_
  rintro e w2 ⟨t, q, rfl, h2, _⟩
  have H2 : Hid (QH O (fun x => Value.ownBlock (.slice none 0 0) = some x) wb w2 t q 0 (some f) none (fun _ => ⟨[], 0, true⟩)) := h2.less fun x hx => by cases hx
  clear h2
  go_wp2_with fail
  refine (set_any f none ((m : Int) + 1) w2 H2.out.fz (by omega)).mono ?_
  rintro e w3 ⟨rfl, hz, uz, _⟩
  rw [ofk_pos] at hz
  have H3 := hid (H2.out.fuse uz hz)
  clear hz uz H2 HF UF hm i1 hm2
  go_upto_block 0 with fail
  go_cut [11, 12] (fun s11 s12 wx => ∃ R z b S k N, QH O (fun x => s11.ownBlock = some x) wb wx t q N (some f) k S ∧ OwnV 9 wb.heap.size wx s11 (SrV R) ∧ KpM R z b S ∧ s12 = .string (strOf (if b then z else [])))
  case first =>
    as_aux_lemma =>
      go_wp2_with fail
      go_loopw [11, 12, 13] (fun s11 s12 i wr => ∃ j : Nat, j ≤ 20 ∧ j ≤ l0 ∧ i = .int .i64 (j : Nat) ∧ s12 = .string ⟨#[]⟩ ∧ ∃ S k N, QH O (fun x => s11.ownBlock = some x) wb wr t q N (some f) k S ∧ OwnV 9 wb.heap.size wr s11 (SrV (L0.take j)) ∧ (∀ y ∈ L0.take j, RecB y) ∧ (∀ i, i < 3 → S i = ⟨flt (L0.take j), 0, true⟩) ∧ N ≤ j) (fun _ _ i _ => 20 - (intOf i).toNat)
      case atStart => exact ⟨0, by omega, by omega, rfl, rfl, _, _, _, H3.out, OwnV.nil _ _ _, (fun y hy => by rw [List.take_zero] at hy; cases hy), (fun i hi => rfl), Nat.le_refl _⟩
      case round =>
        obtain ⟨j, hj, hjl, rfl, rfl, S, k, N, hq, ho, hrec, hS, hN⟩ := hrel
        have HQ := hid hq
        have HO := hid ho
        have HRC := hid hrec
        have HS := hid hS
        have HN := hid hN
        clear hq ho hrec hS hN H3
        obtain ⟨va, vc, rfl⟩ := HO.out.shape
        have j0 : (0 : Int) ≤ (j : Int) := by omega
        have HTL : Hid ((L0.take j).length ≤ 20) := by show _ ≤ _; rw [List.length_take]; omega
        by_cases hlj : j < l0
        · have j1 : (j : Int) < (l0 : Int) := by omega
          by_cases h20 : j < 20
          · have j2 : (j : Int) < 20 := by omega
            have HJ := hid (And.intro h20 hlj)
            obtain ⟨g, o, z, ea, ec, rfl, hzj, hsl, hec, hcell⟩ := HR.out.at hlj
            have y0 := hcell _ HQ.out.up
            have HSL := hid hsl
            have HEC := hid hec
            have HCE := hid hcell
            have HZJ := hid hzj
            obtain ⟨zl, ZL⟩ : ∃ zl, Hid (z.length = zl) := ⟨_, rfl⟩
            rw [ZL.out] at y0 HSL HEC HCE
            clear hsl hec hcell hzj hj hjl hlj h20
            by_cases hbad : zl = 0 ∨ 250 < zl
            · have HB := hid hbad
              rcases hbad with e | e
              · have k1 : ¬ (250 : Int) < (zl : Int) := by omega
                have k2 : ((zl : Int) == 0) = true := by simp [e]
                clear e
                go_wp2_with fail
                refine (qawake_any O _).mono ?_
                rintro e w9 ⟨rfl, ka⟩
                have UE := hid (UB.out.trans (HQ.out.up.trans ka))
                clear ka
                go_wp2_with fail
                go_ret
                exact ⟨rfl, UE.out.below (Nat.le_refl _) fun _ _ h => h⟩
              · have k1 : (250 : Int) < (zl : Int) := by omega
                clear e
                go_wp2_with fail
                refine (qawake_any O _).mono ?_
                rintro e w9 ⟨rfl, ka⟩
                have UE := hid (UB.out.trans (HQ.out.up.trans ka))
                clear ka
                go_wp2_with fail
                go_ret
                exact ⟨rfl, UE.out.below (Nat.le_refl _) fun _ _ h => h⟩
            · have k1 : ¬ (250 : Int) < (zl : Int) := by omega
              have k2 : ((zl : Int) == 0) = false := by simp; omega
              have HZR : Hid (RecB z) := ⟨by unfold Rec; rw [ZL.out]; omega, HSL.out.smalls⟩
              clear hbad
              obtain ⟨c, S', k', hap, hcc⟩ := app_keep (k := k) HS.out HZR.out.1 (by
                have := flt_le HRC.out
                have := HTL.out
                have := HZR.out.1
                unfold Rec at this
                omega)
              have HAP := hid (qh_appendE HQ.out (by have := HN.out; have := HJ.out; omega) ec (HSL.out.nxt HQ.out.up) HEC.out (by have := HZR.out.1; unfold Rec at this; rw [ZL.out] at this; omega) (by
                rcases HSL.out.row with e | ⟨bb, oo, e, hb, _⟩
                · exact .inl e
                · exact .inr fun y hy => .inr (by rw [e] at hy; cases hy; exact hb)) hap)
              clear hap
              rcases hcc with ⟨rfl, hS'⟩ | ⟨rfl, hS'⟩
              · have HS' := hid hS'
                clear hS'
                go_wp2_with fail
                refine HAP.out.mono ?_
                rintro e w4 ⟨rfl, h4, tp⟩
                have H4 := hid h4
                have HO4 : Hid (OwnV 9 wb.heap.size w4 (.slice va (SrV (L0.take j)).length vc) (SrV (L0.take j))) := HO.out.stay tp fun x hx => hx
                have y1 := HCE.out _ H4.out.up
                have z1 := (HSL.out.nxt H4.out.up).conv ec
                have HNX : Hid (L0.take (j + 1) = L0.take j ++ [z]) := by
                  have hjl : j < L0.length := by rw [HR.out.len]; exact HJ.out.2
                  have hz := HZJ.out
                  rw [List.getElem?_eq_getElem hjl] at hz
                  injection hz with hz
                  show _ = _
                  rw [List.take_succ_eq_append_getElem hjl, hz]
                have HOA := hid (HO4.out.alloc (.cells #[.string (strOf z)] 9))
                have HSZ : Hid (wb.heap.size ≤ (w4.alloc (.cells #[.string (strOf z)] 9)).heap.size) := (H4.out.up.alloc _).size
                have HCN : Hid ((w4.alloc (.cells #[.string (strOf z)] 9)).cell? ⟨w4.heap.size, 0, none⟩ = some (.string (strOf z))) := World.cell?_alloc_new _ _ _ 0
                have HL1 : Hid ((L0.take j).length + 1 ≤ 1000000) := by show _ ≤ _; have := HTL.out; omega
                have HWA := hid (H4.out.owns (Q := fun x => Value.ownBlock (.slice va (SrV (L0.take j)).length vc) = some x) ((Up.refl _ w4).alloc (.cells #[.string (strOf z)] 9)) fun x hx => .inl hx)
                clear h4 tp HAP HQ HO y0
                have HST : Hid (∀ v' w', OwnV 9 wb.heap.size w' v' (SrV (L0.take j ++ [z])) → (w4.alloc (.cells #[.string (strOf z)] 9)).grownBy w' (Value.ownBlock (.slice va (SrV (L0.take j)).length vc)) → (v'.ownBlock = Value.ownBlock (.slice va (SrV (L0.take j)).length vc) ∨ v'.ownBlock = some (w4.alloc (.cells #[.string (strOf z)] 9)).heap.size) →
                    QH O (fun x => v'.ownBlock = some x) wb w' t q (if (0 : Int) = 0 then N + 1 else N) (some f) k' S') := fun v' w' g1 g2 g3 =>
                  HWA.out.grow g2 (fun x hx => ⟨hx, (World.ownsRow.lt HOA.out x hx).1⟩) fun x hx => by
                    rcases g3 with e | e
                    · exact .inl (by rw [← e]; exact hx)
                    · rw [hx] at e
                      injection e with e
                      exact .inr ⟨by omega, (World.ownsRow.lt g1 x hx).2⟩
                obtain ⟨sz, SZ⟩ : ∃ sz, Hid (strOf z = sz) := ⟨_, rfl⟩
                rw [SZ.out] at z1 HOA HSZ HCN HWA HST
                generalize (SrV (L0.take j)).length = ln at HO4 HOA HWA HST ⊢
                go_wp2_with (first
                  | (at_builtin; refine wpList_append_str rfl (.tmp 76) (.tmp 82) rfl wb.heap.size _ (L0.take j) rfl HOA.out ⟨w4.heap.size, 0, none⟩ 1 z sz SZ.out rfl HCN.out HL1.out HSZ.out ?_; intro v5 w5 G1 G2 G3)
                  | fail)
                have HQ5 : Hid (QH O (fun x => v5.ownBlock = some x) wb w5 t q (N + 1) (some f) k' S') := HST.out v5 w5 G1.out G2.out G3.out
                have HO5 : Hid (OwnV 9 wb.heap.size w5 v5 (SrV (L0.take (j + 1)))) := by show OwnV _ _ _ _ _; rw [HNX.out]; exact G1.out
                have HRC5 : Hid (∀ y ∈ L0.take (j + 1), RecB y) := fun y hy => by
                  rw [HNX.out] at hy
                  rcases List.mem_append.1 hy with e | e
                  · exact HRC.out y e
                  · rw [List.mem_singleton.1 e]; exact HZR.out
                have HS5 : Hid (∀ i, i < 3 → S' i = ⟨flt (L0.take (j + 1)), 0, true⟩) := fun i hi => by
                  rw [HS'.out i hi, HNX.out, flt_append, flt_one]
                clear G1 G2 G3 HST HOA HCN HWA
                go_wp2_with fail
                go_roundw
                case rel => exact ⟨j + 1, HJ.out.1, HJ.out.2, by go_num, rfl, _, _, _, HQ5.out, HO5.out, HRC5.out, HS5.out, by have := HN.out; omega⟩
                case measure => have := HJ.out; simp [intOf]; omega
              · have HS' := hid hS'
                clear hS'
                go_wp2_with fail
                refine HAP.out.mono ?_
                rintro e w4 ⟨rfl, h4, tp⟩
                have H4 := hid h4
                have HO4 : Hid (OwnV 9 wb.heap.size w4 (.slice va (SrV (L0.take j)).length vc) (SrV (L0.take j))) := HO.out.stay tp fun x hx => hx
                have y1 := HCE.out _ H4.out.up
                have z1 := (HSL.out.nxt H4.out.up).conv ec
                have HKM : Hid (KpM (L0.take j) z true S') := KpM.dead HRC.out HTL.out HZR.out HS'.out
                have HZS : Hid (strOf z = strOf (if true then z else [])) := rfl
                clear h4 tp HAP HQ HO y0
                generalize strOf z = sz at z1 HZS
                go_wp2_with fail
                go_meet
                case rel => exact ⟨_, _, _, _, _, _, H4.out, HO4.out, HKM.out, congrArg Value.string HZS.out⟩
          · have j2 : ¬ (j : Int) < 20 := by omega
            have HKM : Hid (KpM (L0.take j) [0] false S) := KpM.flat HRC.out HTL.out HS.out
            clear h20 hj hjl hlj
            go_wp2_with fail
            go_meet
            case rel => exact ⟨_, _, _, _, _, _, HQ.out, HO.out, HKM.out, rfl⟩
        · have j1 : ¬ (j : Int) < (l0 : Int) := by omega
          have HKM : Hid (KpM (L0.take j) [0] false S) := KpM.flat HRC.out HTL.out HS.out
          clear hj hjl hlj
          go_wp2_with fail
          go_meet
          case rel => exact ⟨_, _, _, _, _, _, HQ.out, HO.out, HKM.out, rfl⟩
  case rest =>
    obtain ⟨R, z, b, S, k, N, hq, ho, hkm, rfl⟩ := hcut
    have HQ := hid hq
    have HO := hid ho
    have HK := hid hkm
    clear hq ho hkm H3
    obtain ⟨va, vc, rfl⟩ := HO.out.shape
    obtain ⟨ns, NS⟩ : ∃ ns, Hid (strOf (if b then z else []) = ns) := ⟨_, rfl⟩
    rw [NS.out]
    go_wp2_with fail
    refine (qh_tapes HQ.out).mono ?_
    rintro e w4 ⟨rfl, h4, u4⟩
    have H4 := hid h4
    have HO4 : Hid (OwnV 9 wb.heap.size w4 (.slice va (SrV R).length vc) (SrV R)) := HO.out.keep fun g hg => u4.block g (World.ownsRow.lt HO.out g hg).2 id
    clear h4 u4 HQ HO
    unfold tri
    have HL3 := hid (l3_new w4 q)
    have H5 : Hid (QH O (fun x => Value.ownBlock (.slice va (SrV R).length vc) = some x ∨ x = w4.heap.size) wb (w4.alloc (.cells #[.pointer (some ⟨q 0, 0, none⟩), .pointer (some ⟨q 1, 0, none⟩), .pointer (some ⟨q 2, 0, none⟩)] 27)) t q N (some f) k S) :=
      H4.out.owns ((Up.refl _ _).alloc _) fun x hx => hx.imp id fun e => ⟨by omega, by rw [e]; simp⟩
    have HO5 := hid (HO4.out.alloc (.cells #[.pointer (some ⟨q 0, 0, none⟩), .pointer (some ⟨q 1, 0, none⟩), .pointer (some ⟨q 2, 0, none⟩)] 27))
    clear H4 HO4
    go_wp2_with fail
    generalize World.alloc w4 _ = w5 at HL3 H5 HO5 ⊢
    generalize w4.heap.size = lb at HL3 H5 ⊢
    go_loopw [16] (fun i wr => ∃ kk : Nat, kk ≤ 3 ∧ i = .int .i64 (kk : Nat) ∧ L3 wr lb q ∧ OwnV 9 wb.heap.size wr (.slice va (SrV R).length vc) (SrV R) ∧ ∃ S', QH O (fun x => Value.ownBlock (.slice va (SrV R).length vc) = some x ∨ x = lb) wb wr t q N (some f) k S' ∧ KpM R z b S' ∧ ∀ i, i < kk → (S' i).loose = 0) (fun i _ => 3 - (intOf i).toNat)
    case atStart => exact ⟨0, Nat.zero_le _, rfl, HL3.out, HO5.out, S, H5.out, HK.out, fun i hi => absurd hi (Nat.not_lt_zero i)⟩
    case round =>
      obtain ⟨kk, hk, rfl, hl3, ho, S', hq, hkm, hlo⟩ := hrel
      have HQ := hid hq
      have HO := hid ho
      have HL4 := hid hl3
      have HK4 := hid hkm
      have HLO := hid hlo
      clear hq ho hkm hlo hl3 H5 HO5 HL3 HK
      have j0 : (0 : Int) ≤ (kk : Int) := by omega
      by_cases hlt : kk < 3
      · have j1 : (kk : Int) < 3 := by omega
        have HKK := hid hlt
        have ck := HL4.out.cell kk hlt
        clear hk hlt
        go_upto_region 25 with fail
        have HX := hid ((HI.out.nxt HQ.out.up).cell kk HKK.out)
        have ck' : wr.drew.cell? ⟨lb, kk, none⟩ = some (.pointer (some ⟨q kk, 0, none⟩)) := ck
        have cx' : wr.drew.cell? ⟨xb, kk, none⟩ = some (.int .i64 (X kk)) := HX.out
        go_still_tail 6, (by kernel_rfl)
        change wpList _ _ _ _ _ wr.drew
        have HQD := hid (HQ.out.nxt ((Up.refl Nul wr).drew))
        have HLD := hid (HL4.out.nxt ((Up.refl Nul wr).drew))
        have HOD : Hid (OwnV 9 wb.heap.size wr.drew (.slice va (SrV R).length vc) (SrV R)) := HO.out
        clear HQ HO HL4 ck ck' cx' HX
        generalize wr.drew = wd at HQD HLD HOD ⊢
        go_wp2_with fail
        refine (qh_crash HQD.out HKK.out (X kk)).mono ?_
        rintro e w6 ⟨rfl, h6, tp⟩
        have H6 := hid h6
        have HL6 := hid (HLD.out.tp tp (.inr rfl))
        have HO6 := hid (HOD.out.stay tp fun x hx => .inl hx)
        clear h6 tp HQD HLD HOD
        go_wp2_with fail
        go_roundw
        case rel => exact ⟨kk + 1, HKK.out, by go_num, HL6.out, HO6.out, _, H6.out, HK4.out.crash HKK.out (X kk), fun i hi => by
          by_cases e : i = kk
          · rw [e, updT_same]; rfl
          · rw [updT_other _ _ e]; exact HLO.out i (by omega)⟩
        case measure => have := HKK.out; simp [intOf]; omega
      · obtain rfl : kk = 3 := by omega
        have j1 : ¬ ((3 : Nat) : Int) < 3 := by omega
        obtain ⟨y, hy, hy4⟩ := FrL.i64_mask 2 (by omega) a3
        have hy : bits .and .i64 a3 3 = (y : Int) := hy
        have hy4 : y < 4 := hy4
        have hk0 : k = k := rfl
        have HLO3 : Hid (∀ i, i < 3 → (S' i).loose = 0) := fun i hi => HLO.out i hi
        clear hlt hk
        have hbr : y < 3 ∨ ¬ y < 3 := by omega
        rcases hbr with hy3 | hy3
        focus
          have j2 : (y : Int) < 3 := by omega
          have ck := HL4.out.cell y hy3
          have HY := hid hy3
          have HKL := hid (HK4.out.lost HLO3.out hy3)
          clear hy3 hy4
          go_wp2_with fail
          refine (qh_fail HQ.out HY.out).mono ?_
          rintro e w6 ⟨rfl, h6, tp⟩
          have H6 := hid h6
          have HL6 := hid (HL4.out.tp tp (.inr rfl))
          have HO6 := hid (HO.out.stay tp fun x hx => .inl hx)
          clear h6 tp HQ HL4 HO ck HY
          go_wp2_with fail
          refine (set_any f k 0 w6 H6.out.fz (by omega)).mono ?_
          rintro e w7 ⟨rfl, hz, uz, _⟩
          have HNF : Hid (∀ x, Value.ownBlock (.slice va (SrV R).length vc) = some x ∨ x = lb → ¬ x = f) := fun x hx e => (H6.out.fnew f rfl).2 (e ▸ hx)
          have HQ7 : Hid (∃ S7, QH O (fun x => Value.ownBlock (.slice va (SrV R).length vc) = some x ∨ x = lb) wb w7 t q N (some f) none S7 ∧ KpL R z b S7) := ⟨_, H6.out.fuse uz hz, HKL.out⟩
          have HL7 : Hid (L3 w7 lb q) := ⟨fun i hi => (uz.cell (p := ⟨lb, i, none⟩) HL6.out.lt fun e => HNF.out lb (.inr rfl) e).trans (HL6.out.cell i hi), Nat.lt_of_lt_of_le HL6.out.lt uz.size⟩
          have HO7 : Hid (OwnV 9 wb.heap.size w7 (.slice va (SrV R).length vc) (SrV R)) := HO6.out.keep fun g hg => uz.block g (World.ownsRow.lt HO6.out g hg).2 fun e => HNF.out g (.inl hg) e
          clear H6 HL6 HO6 hz uz HNF HKL
        rotate_left
        focus
          have j2 : ¬ (y : Int) < 3 := by omega
          have HKL := hid (HK4.out.all HLO3.out)
          clear hy3 hy4
          go_wp2_with fail
          refine (set_any f k 0 wr HQ.out.fz (by omega)).mono ?_
          rintro e w7 ⟨rfl, hz, uz, _⟩
          have HNF : Hid (∀ x, Value.ownBlock (.slice va (SrV R).length vc) = some x ∨ x = lb → ¬ x = f) := fun x hx e => (HQ.out.fnew f rfl).2 (e ▸ hx)
          have HQ7 : Hid (∃ S7, QH O (fun x => Value.ownBlock (.slice va (SrV R).length vc) = some x ∨ x = lb) wb w7 t q N (some f) none S7 ∧ KpL R z b S7) := ⟨_, HQ.out.fuse uz hz, HKL.out⟩
          have HL7 : Hid (L3 w7 lb q) := ⟨fun i hi => (uz.cell (p := ⟨lb, i, none⟩) HL4.out.lt fun e => HNF.out lb (.inr rfl) e).trans (HL4.out.cell i hi), Nat.lt_of_lt_of_le HL4.out.lt uz.size⟩
          have HO7 : Hid (OwnV 9 wb.heap.size w7 (.slice va (SrV R).length vc) (SrV R)) := HO.out.keep fun g hg => uz.block g (World.ownsRow.lt HO.out g hg).2 fun e => HNF.out g (.inl hg) e
          clear HQ HL4 HO hz uz HNF HKL
        all_goals
          clear j2 HLO3 HLO HK4 hy
          go_wp2_with fail
          go_loopw [11, 12, 17] (fun s11 s12 i wr => ∃ qq : Nat, qq ≤ 2 ∧ i = .int .i64 (qq : Nat) ∧ L3 wr lb q ∧ ∃ R z b S N t', QH O (fun x => s11.ownBlock = some x ∨ x = lb) wb wr t' q N (some f) none S ∧ OwnV 9 wb.heap.size wr s11 (SrV R) ∧ KpL R z b S ∧ s12 = .string (strOf (if b then z else [])) ∧ (1 ≤ qq → b = false)) (fun _ _ i _ => 2 - (intOf i).toNat)
          case atStart =>
            obtain ⟨S7, hq7, hk7⟩ := HQ7.out
            exact ⟨0, Nat.zero_le _, rfl, HL7.out, R, z, b, S7, N, t, hq7, HO7.out, hk7, by rw [NS.out], fun h => absurd h (by decide)⟩
          case round =>
            obtain ⟨qq, hqq, rfl, hl3, R, z, b, S, N, t', hq, ho, hkl, rfl, hqb⟩ := hrel
            have HQ := hid hq
            have HO := hid ho
            have HL := hid hl3
            have HK := hid hkl
            have HB := hid hqb
            obtain ⟨va, vc, rfl⟩ := HO.out.shape
            obtain ⟨ns, NS⟩ : ∃ ns, Hid (strOf (if b then z else []) = ns) := ⟨_, rfl⟩
            rw [NS.out]
            clear hq ho hl3 hkl hqb HQ7 HL7 HO7
            have i0 : (0 : Int) ≤ (qq : Int) := by omega
            by_cases hlt : qq < 2
            · have i1 : (qq : Int) < 2 := by omega
              have HQL := hid hlt
              obtain ⟨W, S', hop, hW, hkw⟩ := HK.out.open
              have HOP := hid (qh_openE HQ.out hop)
              unfold tri at HOP
              have HW := hid hW
              have HKW := hid hkw
              have c0 := HL.out.cell 0 (by omega)
              have c1 := HL.out.cell 1 (by omega)
              have c2 := HL.out.cell 2 (by omega)
              clear hop hW hkw hlt hqq
              go_wp2_with fail
              refine HOP.out.mono ?_
              rintro e w8 ⟨t2, v, rfl, hr, h8, tp⟩
              have HRR := hid hr
              have H8 := hid h8
              have HL8 := hid (HL.out.tp tp (.inr rfl))
              have HO8 := hid (HO.out.stay tp fun x hx => .inl hx)
              have HST := hid (strings_all HRR.out (by have := HKW.out.len; have := one_le (!false); omega))
              clear hr h8 tp HL HO HQ HOP c0 c1 c2
              go_wp2_with fail
              refine HST.out.mono ?_
              rintro e w9 ⟨v9, rfl, ho9, u9⟩
              obtain ⟨sa, sc, rfl⟩ := ho9.shape
              have HO9 := hid ho9
              have HR9 : Hid (OwnV 9 wb.heap.size w9 (.slice va (SrV R).length vc) (SrV R)) := HO8.out.keep fun g hg => u9.block g (World.ownsRow.lt HO8.out g hg).2 id
              have H9 : Hid (QH O (fun x => (Value.ownBlock (.slice va (SrV R).length vc) = some x ∨ x = lb) ∨ Value.ownBlock (.slice sa (SrV W).length sc) = some x) wb w9 t2 q W.length (some f) none S') := H8.out.owns u9 fun x hx => hx.imp id fun e => World.ownsRow.lt HO9.out x e
              have HL9 := hid (HL8.out.nxt u9)
              have hlW : W.length ≤ 21 := by have := HKW.out.len; have := one_le (!false); omega
              have hlR : R.length ≤ 21 := by have := HK.out.len; have := one_le (!b); omega
              have HSA := hid (same_all HO9.out.rowS HR9.out.rowS ⟨by omega, by omega⟩ (fun y hy => (HKW.out.recs y hy).2) fun y hy => (HK.out.recs y hy).2)
              have HLWR : Hid (W.length ≤ 21 ∧ R.length ≤ 21) := ⟨hlW, hlR⟩
              have HUP8 : Hid (wb.heap.size ≤ w8.heap.size) := H8.out.up.size
              clear ho9 u9 HST HRR H8 HO8 HL8 hlW hlR
              rcases HW.out with hWR | ⟨hb, hWR⟩
              · have hd : decide (W = R) = true := decide_eq_true hWR
                rw [hd] at HSA
                have HWR := hid hWR
                clear hd hWR
                go_wp2_with fail
                refine HSA.out.mono ?_
                rintro e w10 ⟨rfl, u10⟩
                have H10 := hid (H9.out.nxt u10)
                have HL10 := hid (HL9.out.nxt u10)
                have HO10 : Hid (OwnV 9 w8.heap.size w10 (.slice sa (SrV W).length sc) (SrV W)) := HO9.out.keep fun g hg => u10.block g (World.ownsRow.lt HO9.out g hg).2 id
                have HR10 : Hid (OwnV 9 wb.heap.size w10 (.slice va (SrV R).length vc) (SrV R)) := HR9.out.keep fun g hg => u10.block g (World.ownsRow.lt HR9.out g hg).2 id
                have HSZ : Hid (wb.heap.size ≤ w8.heap.size) := HUP8.out
                clear u10 H9 HL9 HO9 HR9 HSA
                by_cases hq0 : qq = 0
                · have i3 : ((qq : Int) == 0) = true := by simp [hq0]
                  clear hq0
                  go_wp2_with fail
                  go_roundw
                  case rel => exact ⟨qq + 1, HQL.out, by go_num, HL10.out, W, [0], false, S', _, t2, H10.out.less (fun x hx => hx.elim .inr fun e => .inl (.inr e)), HO10.out.weak HSZ.out, HKW.out, rfl, fun _ => rfl⟩
                  case measure => have := HQL.out; simp [intOf]; omega
                · have i3 : ((qq : Int) == 0) = false := by simp; omega
                  have hbf : b = false := HB.out (by omega)
                  have HNS0 : Hid (ns = strOf []) := by show _ = _; rw [← NS.out, hbf]; rfl
                  have HKR : Hid (KpL R [0] false S') := by rw [← HWR.out]; exact HKW.out
                  clear hq0 hbf
                  go_wp2_with fail
                  go_roundw
                  case rel => exact ⟨qq + 1, HQL.out, by go_num, HL10.out, R, [0], false, S', _, t2, H10.out.less (fun x hx => .inl hx), HR10.out, HKR.out, by rw [HNS0.out]; rfl, fun _ => rfl⟩
                  case measure => have := HQL.out; simp [intOf]; omega
              · have hq0 : qq = 0 := by
                  by_cases e : qq = 0
                  · exact e
                  · have := HB.out (by omega)
                    rw [hb] at this
                    cases this
                have i3 : ((qq : Int) == 0) = true := by simp [hq0]
                have hd : decide (W = R) = false := decide_eq_false fun e => by
                  rw [hWR] at e
                  have := congrArg List.length e
                  simp at this
                have hns : (ns.toList == (⟨#[]⟩ : ByteArray).toList) = false := by
                  have h1 := str_beq (y := z) (z := []) HK.out.hz.2 (fun i => by simp)
                  have h2 : z ≠ [] := fun e => by
                    have := HK.out.hz.1
                    unfold Rec at this
                    rw [e] at this
                    simp at this
                  have h3 : ns = strOf z := by rw [← NS.out, hb]; rfl
                  rw [decide_eq_false h2] at h1
                  rw [h3]
                  exact h1
                have hne2 : ¬ ns.toList = [] := fun e => by
                  have e0 : (⟨#[]⟩ : ByteArray).toList = [] := by
                    unfold ByteArray.toList
                    unfold ByteArray.toList.loop
                    simp
                    exact fun h => absurd h (Nat.not_lt_zero 0)
                  rw [e, e0] at hns
                  cases hns
                have hne : ns.toList.isEmpty = false := by
                  cases h : ns.toList with
                  | nil => exact absurd h hne2
                  | cons a b => rfl
                clear hns
                rw [hd] at HSA
                have HWR := hid hWR
                have HBT := hid hb
                clear hd hWR hq0 hb
                go_wp2_with fail
                refine HSA.out.mono ?_
                rintro e w10 ⟨rfl, u10⟩
                have H10 := hid (H9.out.nxt u10)
                have HL10 := hid (HL9.out.nxt u10)
                have HO10 : Hid (OwnV 9 w8.heap.size w10 (.slice sa (SrV W).length sc) (SrV W)) := HO9.out.keep fun g hg => u10.block g (World.ownsRow.lt HO9.out g hg).2 id
                have HR10 : Hid (OwnV 9 wb.heap.size w10 (.slice va (SrV R).length vc) (SrV R)) := HR9.out.keep fun g hg => u10.block g (World.ownsRow.lt HR9.out g hg).2 id
                have HSZ : Hid (wb.heap.size ≤ w8.heap.size) := HUP8.out
                clear u10 H9 HL9 HO9 HR9 HSA
                have hA : OwnV 9 w10.heap.size (w10.alloc (.cells #[] 9)) (.slice (some ⟨w10.heap.size, 0, none⟩) 0 0) [] :=
                  ⟨rfl, .inr ⟨w10.heap.size, 0, #[], rfl, Nat.le_refl _, heap_alloc_new _ _, Nat.le_refl _, by unfold maxLen; omega, rfl, rfl⟩⟩
                obtain ⟨vB, wB, hapB, hoB, hgB⟩ := run_append_strs hA (HR10.out.alloc _) (by rw [SrV_length]; have := HLWR.out; omega) (fun u hu => by
                  unfold SrV at hu
                  obtain ⟨y, _, rfl⟩ := List.mem_map.1 hu
                  rfl) (by simp) 29
                have hzn : strOf z = ns := by rw [← NS.out, HBT.out]; rfl
                obtain ⟨vD, wD, hapD, hoD, hgD, _⟩ := run_append_str1 (hoB.alloc (.cells #[.string ns] 9)) hzn (World.cell?_alloc_new _ _ _ 0 : (wB.alloc (.cells #[.string ns] 9)).cell? ⟨wB.heap.size, 0, none⟩ = some (.string ns)) (cap := 1) (by have := HLWR.out; omega) (by have := hgB.size; simp at this ⊢; omega) 29
                have UD : Hid (Up Nul w10 wD) := ((((Up.refl Nul w10).alloc _).grown hgB fun g hg => by injection hg with hg; omega).alloc _).grown hgD fun g hg => hoB.base g hg
                have HOD : Hid (OwnV 9 w8.heap.size wD (.slice sa (SrV W).length sc) (SrV W)) := HO10.out.keep fun g hg => UD.out.block g (World.ownsRow.lt HO10.out g hg).2 id
                have HSB := hid (same_all HOD.out.rowS hoD.rowS ⟨by have := HLWR.out; omega, by rw [List.length_append]; have := HLWR.out; simp; omega⟩ (fun y hy => (HKW.out.recs y hy).2) fun y hy => by
                  rw [← HWR.out] at hy
                  exact (HKW.out.recs y hy).2)
                rw [decide_eq_true HWR.out] at HSB
                have HQD := hid (H10.out.nxt UD.out)
                have HLD := hid (HL10.out.nxt UD.out)
                clear hA hoB hgB hoD hgD hzn H10 HL10 HO10 HR10
                generalize (SrV R).length = rl at hapB ⊢
                go_wp2_with (first
                  | (at_builtin; refine BigFrame.wpList_want (by go_simp) (fun KK hKK => ?_); refine wp_append_eqv (.tmp 138) (.tmp 139) 29 rfl (.slice (some ⟨w10.heap.size, 0, none⟩) 0 0) (.slice va rl vc) vB rfl rfl hapB ?_; refine hKK _ _ ?_; clear hKK KK)
                  | (at_builtin; refine BigFrame.wpList_want (by go_simp) (fun KK hKK => ?_); go_loud (refine wp_append_eqv (.tmp 140) (.tmp 142) 29 rfl vB (.slice (some ⟨wB.heap.size, 0, none⟩) 1 1) vD rfl rfl hapD ?_); refine hKK _ _ ?_; clear hKK KK)
                  | (go_at_call 19; refine HSB.out.mono ?_; rintro e w11 ⟨rfl, u11⟩)
                  | fail)
                have HQE := hid (HQD.out.nxt u11)
                have HLE := hid (HLD.out.nxt u11)
                have HOE : Hid (OwnV 9 w8.heap.size w11 (.slice sa (SrV W).length sc) (SrV W)) := HOD.out.keep fun g hg => u11.block g (World.ownsRow.lt HOD.out g hg).2 id
                clear u11 HQD HLD HOD hapB hapD HSB
                go_roundw
                case rel => exact ⟨qq + 1, HQL.out, by go_num, HLE.out, W, [0], false, S', _, t2, HQE.out.less (fun x hx => hx.elim .inr fun e => .inl (.inr e)), HOE.out.weak HSZ.out, HKW.out, rfl, fun _ => rfl⟩
                case measure => have := HQL.out; simp [intOf]; omega
            · obtain rfl : qq = 2 := by omega
              have i1 : ¬ ((2 : Nat) : Int) < 2 := by omega
              go_wp2_with fail
              refine (qawake_any O _).mono ?_
              rintro e w9 ⟨rfl, ka⟩
              have UE := hid (UB.out.trans (HQ.out.up.trans ka))
              clear ka
              go_wp2_with fail
              go_ret
              exact ⟨rfl, UE.out.below (Nat.le_refl _) fun _ _ h => h⟩
theorem tkeeps_walk (O : TrioOps) (a0 : Option Addr) (l0 c0 : Nat) (a1 : Int) (x0 x1 x2 a3 : Int) (w : World) (w0 : CamS w a0 l0 c0) :
    Calls Try.prog 8 #[.slice a0 l0 c0, .int .i64 a1, .agg #[.int .i64 x0, .int .i64 x1, .int .i64 x2], .int .i64 a3] w fun e w' => e = .returned (.bool true) ∧ Below w.heap.size w w' := by
  obtain ⟨L0, r0⟩ := w0.rin
  exact tkeeps_in O a0 l0 c0 L0 a1 (fun i => if i = 0 then x0 else if i = 1 then x1 else x2) a3 w r0
end Go.Proofs.Ytencinajieicpaa
